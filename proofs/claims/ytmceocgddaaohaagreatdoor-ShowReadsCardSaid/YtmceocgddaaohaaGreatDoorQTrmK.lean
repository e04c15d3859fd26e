import Derived.Test.YtmceocgddaaohaaGreatDoorQGenT
import Derived.RangeFuncNested
import Derived.RangeFuncLeaves
import Derived.OrdersIn
import Derived.Shelf.Abstract
import Derived.Test.YtmceocgddaaohaaGreatDoorQTrmC
namespace Go.Proofs.YtmceocgddaaohaaGreatDoor
open Go Go.RowKit
set_option maxRecDepth 100000
def inR (l:Nat):Fence:=Fence.wide.inRound l
theorem inR_round (l:Nat):(inR l).round=some l:=rfl
def noDefer (ops:Array Oper):Bool:=ops.all fun o=>match o.op with|.defer _=>false|_=>true
theorem noDefer_at {ops:Array Oper} (h:noDefer ops=true) {i:Nat} {o:Oper} (ho:ops[i]?=some o):∀ c,o.op≠.defer c:=by
 intro c hc;obtain ⟨hlt,rfl⟩:=Array.getElem?_eq_some_iff.1 ho;have:=(Array.all_eq_true.1 h) i hlt;rw [hc] at this;cases this
theorem rows_in {n l:Nat} {P:Program} {row:String} {args:Array Value} {w:World} {R:Value→World→Prop} (h:Rows P row args w R):RowsIn (inR l) n P row args w R:=fun c cs _=>by
 obtain ⟨v,w',hr,hs⟩:=h c cs;exact ⟨v,w',hr,(stepsIn_wide (P:=P)).2 hs⟩
section
variable {P:Program} {ops:Array Oper} {Q:Exit→Act→World→Prop} {n l:Nat}
theorem oper_in {o:Oper} (hnd:∀ c,o.op≠.defer c) {a:Act} {w:World} {K K':Act→World→Prop} (hK:∀ a w,K a w→K' a w) (h:o.wp P a w K Q):o.wpIn (inR l) n P a w K' Q:=by
 unfold Oper.wp at h;refine ⟨fun _ _=>trivial,?_⟩
 rw [inR_round,Oper.semAt_eq _ _ _ hnd];generalize (execOp a.eval o).run P w=r at *;cases r with
 |ok x w'=>
  cases x<;>simp only [Oper.upon] at h<;>simp only [Oper.uponIn]
  case value v=>exact hK _ _ h
  case skip=>exact hK _ _ h
  case defer d=>exact hK _ _ h
  case enter f args=>
   refine ⟨fun hh=>(by cases hh),CallsIn.mono (CallsIn.inRound l (callsIn_wide.2 h)) fun e w'' he=>?_⟩
   cases e<;>first|exact hK _ _ he|exact he
  case row row args=>exact ⟨fun hh=>(by cases hh),RowsIn.mono (rows_in h) fun v w'' he=>hK _ _ he⟩
 |halt x w'=>cases x<;>simp only [Oper.upon] at h ⊢<;>exact h
theorem wpOp_in (hnd:noDefer ops=true) (hl:¬ LetsOut Q) {i:Nat} {a:Act} {w:World} {K K':Act→World→Prop} (hK:∀ a w,K a w→K' a w) (h:wpOp P ops Q i K a w):wpOpIn (inR l) n P ops Q i K' a w:=by
 unfold wpOp at h;unfold wpOpIn;cases ho:ops[i]? with
 |none=>rw [ho] at h;exact hK _ _ h
 |some o=>
  rw [ho] at h;dsimp only at h ⊢;by_cases hw:Region.wanted o (yielded ops a.tmps)=true
  ·rw [if_pos hw] at h ⊢
   rcases h with h|h
   ·exact oper_in (noDefer_at hnd ho) hK h
   ·exact absurd h.2 hl
  ·rw [if_neg hw] at h ⊢
   exact ⟨fun _ _=>trivial,hK _ _ h⟩
theorem wpOps_in (hnd:noDefer ops=true) (hl:¬ LetsOut Q):∀ (L:List Nat) (a:Act) (w:World),wpOps P ops Q L a w→wpOpsIn (inR l) n P ops Q L a w
 |[],_,_,h=>h
 |i::L,a,w,h=>by
  rw [wpOps_cons] at h;rw [wpOpsIn_cons];exact wpOp_in hnd hl (fun a w h=>wpOps_in hnd hl L a w h) h
theorem wpAny_in {md:Region.Mode} (hnd:noDefer ops=true) (hl:¬ LetsOut Q):∀ (fuel:Nat) (listed:Array Bool) (a:Act) (w:World),wpAny P md ops Q fuel listed a w→wpAnyIn (inR l) n P md ops Q fuel listed a w
 |0,_,_,_,h=>h
 |fuel+1,_,_,_,h=>⟨h.1,fun i hi=>wpOp_in hnd hl (fun a w h=>wpAny_in hnd hl fuel _ a w h) (h.2 i hi)⟩
theorem rin_lin {id:Nat} {ops0:Array Oper} {a:Act} {w:World} (ops:Array Oper) (he:ops0=ops) (hnd:noDefer ops=true) (hl:¬ LetsOut Q) (h:wpFrom P ops Q 0 a w):(Code.region id ops0 false).wpIn (inR l) n P Q a w:=by
 subst he;refine wpIn_region (wpOps_in hnd hl _ a w ?_);have h1:=wpOps_eq_wpList (P:=P) (ops:=ops0) (Q:=Q) ops0.toList 0 (fun j=>by simp)
 rw [List.range_eq_range',← Array.length_toList,h1];have:=h.out
 rwa [List.drop_zero] at this
theorem rin_draw {id : Nat} {ops0 : Array Oper} {a : Act} {w : World} (ops : Array Oper) (S : World → Prop) (he : ops0 = ops) (hnd : noDefer ops = true) (hm : P.follows .mixedOrders = true) (k : Nat) (hk : ops.size = k)
    (h:∀ Q':Exit→Act→World→Prop,(∀ c a w d v,Q' (.panic c) (a.put d v) w→Q' (.panic c) a w)→(∀ a w,Q .normal a w→Q' .normal a w)→wpAnyH P .any ops Q' S k (Array.replicate k false) a w.drew):(Code.region id ops0 true).wpIn (inR l) n P Q a w:=by
 subst he;subst hk;refine wpIn_mono (Q:=fun e a w=>match e with|.normal=>Q .normal a w|_=>False) (wpIn_region_any hm (wpAny_in hnd (fun ⟨_,_,h⟩=>h) _ _ _ _ (wpAny_of_held _ _ _ _ (h _ (fun _ _ _ _ _ h=>h) (fun _ _ h=>h))))) (fun e a w he=>?_)
 cases e<;>first|exact he|exact False.elim he
end
structure finFrom (P:Program) (ops:Array Oper) (Q:Exit→Act→World→Prop) (i:Nat) (a:Act) (w:World):Prop where
 out:wpOpsIn Fence.wide 0 P ops Q (List.range' i (ops.size-i)) a w
section
variable {P:Program} {ops:Array Oper} {Q:Exit→Act→World→Prop} {a:Act} {w:World}
theorem fin_begin {id:Nat} {ops0:Array Oper} (ops:Array Oper) (he:ops0=ops) (h:finFrom P ops Q 0 a w):(Code.region id ops0 false).wp P Q a w:=by
 subst he;refine (wpIn_wide (n:=0)).1 (wpIn_region ?_);have:=h.out
 rwa [Nat.sub_zero,← List.range_eq_range'] at this
theorem range_at {i:Nat} (h:ops[i]?.isSome=true):List.range' i (ops.size-i)=i::List.range' (i+1) (ops.size-(i+1)):=by
 obtain ⟨o,ho⟩:=Option.isSome_iff_exists.1 h;obtain ⟨hlt,-⟩:=Array.getElem?_eq_some_iff.1 ho;rw [show ops.size-i=(ops.size-(i+1))+1 by omega,List.range'_succ]
theorem fin_now (i : Nat) (v : Value) (d : Option Tmp) (hi : (ops[i]?.isSome && Region.wanted (opAt ops i) (yielded ops a.tmps)) = true) (hd : (opAt ops i).dst = d)
    (hrun:(execOp a.eval (opAt ops i)).run P w=.ok (.value v) w) (h:finFrom P ops Q (i+1) (a.put d v) w):finFrom P ops Q i a w:=by
 simp only [Bool.and_eq_true] at hi;obtain ⟨h1,h2⟩:=hi;subst hd;refine ⟨?_⟩;rw [range_at h1,wpOpsIn_cons];unfold wpOpIn;rw [get_opAt h1];dsimp only;rw [if_pos h2];refine ⟨fun _ _=>trivial,?_⟩
 rw [show Fence.wide.round=none from rfl,Oper.semAt_none,hrun,Oper.uponIn_value];exact h.out
theorem fin_yield (i m lp : Nat) (args : Array Value) (d : Option Tmp) (R : Ending → World → Prop) (hi : (ops[i]?.isSome && Region.wanted (opAt ops i) (yielded ops a.tmps)) = true) (hd : (opAt ops i).dst = d)
    (hrun:∀ fn tmps assign body,(Instr.yield lp args).run P w=.ok (.round lp fn tmps assign body) w→(execOp a.eval (opAt ops i)).run P w=.ok (.round lp fn tmps assign body) w)
    (hY:YieldAt Fence.wide m P lp args w R) (h:∀ e w',R e w'→∃ v,e=.returned v∧finFrom P ops Q (i+1) (a.put d v) w'):finFrom P ops Q i a w:=by
 simp only [Bool.and_eq_true] at hi;obtain ⟨h1,h2⟩:=hi;subst hd;obtain ⟨fn,tmps,assign,body,hy,hR⟩:=hY;refine ⟨?_⟩;rw [range_at h1,wpOpsIn_cons];unfold wpOpIn;rw [get_opAt h1];dsimp only;rw [if_pos h2];refine ⟨fun _ _=>trivial,?_⟩
 rw [show Fence.wide.round=none from rfl,Oper.semAt_none,hrun _ _ _ _ hy,Oper.uponIn_round];refine ⟨fun hh=>(by cases hh),⟨trivial,fun c cs _=>?_⟩⟩
 obtain ⟨e,w',hr,hc⟩:=hR.2 c cs (room_wide _);obtain ⟨v,rfl,hk⟩:=h e w' hr;exact ⟨.returned v,w',hk.out,hc⟩
theorem fin_done (i:Nat) (hi:ops.size=i) (h:Q .normal a w):finFrom P ops Q i a w:=by
 refine ⟨?_⟩;rw [hi,Nat.sub_self];exact h
end
theorem calls_of_marks {P : Program} {f : FuncId} {fn : Func} {c : Code} {args : Array Value} {w : World} {R : Ending → World → Prop} (hf : P.funcs[f]? = some fn) (hb : fn.body = some c)
    (h:c.wp P (bodyPostM Fence.wide 0 P fn R) { tmps:=args++Array.replicate (fn.ntmps-args.size) undef,defers:=[] } w):Calls P f args w R:=
 callsIn_wide.1 (callsIn_of_wp_marks hf hb trivial ((wpIn_wide (n:=0)).2 h) rfl)
theorem ret_plain {P:Program} {fn:Func} {R:Ending→World→Prop} {a:Act} {w:World} {v:Value} (hr:(results fn a.tmps).run P w=.ok v w) (hd:a.defers=[]) (hR:R (.returned v) w):bodyPostM Fence.wide 0 P fn R .ret a w:=by
 show LeavesInM Fence.wide 0 P fn a.tmps R a.defers .returning w;rw [hd];exact ⟨_,hr,hR⟩
theorem ret_marks {P : Program} {fn : Func} {R : Ending → World → Prop} {a : Act} {w : World} {v : Value} {D : Nat} (hd : a.defers = [{ target := .collected D, args := #[] }]) (hK : w.heap[D]? = some (.deferred (some [])))
    (hr:(results fn a.tmps).run P (w.putObj D (.deferred none))=.ok v (w.putObj D (.deferred none))) (hR:R (.returned v) (w.putObj D (.deferred none))):bodyPostM Fence.wide 0 P fn R .ret a w:=by
 show LeavesInM Fence.wide 0 P fn a.tmps R a.defers .returning w;rw [hd];exact ⟨by simp,.inl ⟨_,_,rfl,run_takeDeferred hK,⟨_,hr,hR⟩⟩⟩
theorem below_put {n:Nat} {w w':World} {D:Nat} {o:Obj} (h:Below n w w') (hD:n≤D) (hlt:D<w'.heap.size):Below n w (w'.putObj D o):=
 h.grown (grownBy_putObj' w' D o) (by omega) (fun k e=>by cases e;omega)
theorem blk_put {w:World} {b D:Nat} {t:TypeId} {cs:List Value} {o:Obj} (h:Blk w b t cs) (hne:D≠b):Blk (w.putObj D o) b t cs:=by
 unfold Blk at h ⊢;rw [World.putObj_heap_other (Ne.symm hne)];exact h
theorem keepsFrom_below {B:Nat} {W W':World} (h:Below W.heap.size W W'):KeepsFrom B W W':=
 ⟨h.size,fun k _ _ ho _=>(h.block k (Array.getElem?_eq_some_iff.1 ho).1).trans ho⟩
structure Keeps (G:List Nat) (W W':World):Prop where
 os:W'.os=W.os
 tape:W'.tape=W.tape
 output:W'.output=W.output
 size:W.heap.size≤W'.heap.size
 same:∀ k,k<W.heap.size→k∉G→W'.heap[k]?=W.heap[k]?
theorem Keeps.refl (G:List Nat) (W:World):Keeps G W W:=⟨rfl,rfl,rfl,Nat.le_refl _,fun _ _ _=>rfl⟩
theorem Keeps.trans {G:List Nat} {A B C:World} (h:Keeps G A B) (k:Keeps G B C):Keeps G A C:=⟨k.os.trans h.os,k.tape.trans h.tape,k.output.trans h.output,Nat.le_trans h.size k.size,fun i hi hg=>(k.same i (Nat.lt_of_lt_of_le hi h.size) hg).trans (h.same i hi hg)⟩
theorem Keeps.below {G:List Nat} {A B C:World} (h:Keeps G A B) (k:Below A.heap.size B C):Keeps G A C:=⟨k.os.trans h.os,k.tape.trans h.tape,k.output.trans h.output,Nat.le_trans h.size k.size,fun i hi hg=>(k.block i hi).trans (h.same i hi hg)⟩
theorem Keeps.of_below {G:List Nat} {A B:World} (k:Below A.heap.size A B):Keeps G A B:=(Keeps.refl G A).below k
theorem Keeps.drew (G:List Nat) (A:World):Keeps G A A.drew:=⟨rfl,rfl,rfl,Nat.le_refl _,fun _ _ _=>rfl⟩
theorem Keeps.upd {G:List Nat} {A B C:World} {b:Nat} (h:Keeps G A B) (k:Upd b B C) (hb:b∈G∨A.heap.size≤b):Keeps G A C:=
 ⟨k.os.trans h.os,k.tape.trans h.tape,k.output.trans h.output,Nat.le_trans h.size k.size,fun i hi hg=>(k.block i (Nat.lt_of_lt_of_le hi h.size) (fun e=>by
  subst e;rcases hb with hb|hb
  ·exact hg hb
  ·omega)).trans (h.same i hi hg)⟩
theorem Keeps.from {G:List Nat} {B:Nat} {W W':World} (h:Keeps G W W') (hG:∀ g∈G,g<B):KeepsFrom B W W':=
 ⟨h.size,fun k o hk ho _=>(h.same k (Array.getElem?_eq_some_iff.1 ho).1 (fun hg=>by have:=hG k hg;omega)).trans ho⟩
theorem Keeps.lower {G:List Nat} {n:Nat} {w W W':World} (hw:Below n w W) (h:Keeps G W W') (hG:∀ g∈G,n≤g) (hn:n≤W.heap.size):Below n w W':=
 ⟨h.os.trans hw.os,h.tape.trans hw.tape,h.output.trans hw.output,Nat.le_trans hw.size h.size,fun k hk=>(h.same k (by omega) (fun hg=>by have:=hG k hg;omega)).trans (hw.block k hk)⟩
theorem own_below {β:Type} (B n:Nat) (w:World) (hn:n≤B):OwnFrom (β:=β) B (fun _ W=>Below n w W∧n≤W.heap.size):=fun s W W' row h hg hr=>
 ⟨h.1.grown hg h.2 (fun k e=>by have:=(hr k e).1;omega),Nat.le_trans h.2 hg.size⟩
theorem reg_lc {P : Program} {ops : Array Oper} {Q : Exit → Act → World → Prop} {S : World → Prop} {fuel : Nat} {listed : Array Bool} {a : Act} {w : World} (i j : Nat) (vi : Value) (di dj : Tmp) (f : FuncId) (args : Array Value) (R : Ending → World → Prop) (hS : S w) (hSn : ∀ w1, Below w.heap.size w w1 → S w1)
    (hst:(ops[i]?.isSome&&ops[j]?.isSome&&(opAt ops i).guard.isNone&&(opAt ops j).guard.isNone&&(Region.ready .any ops listed==[i,j]||Region.ready .any ops listed==[j,i])&&(Region.ready .any ops (listed.setIfInBounds i true)==[j])&&(Region.ready .any ops (listed.setIfInBounds j true)==[i]))=true)
    (hdi:(opAt ops i).dst=some di) (hdj:(opAt ops j).dst=some dj) (nij:di≠dj) (eij:i≠j)
    (hi0:(execOp a.eval (opAt ops i)).run P w=.ok (.value vi) w) (hi1:∀ vj w1,Below w.heap.size w w1→(execOp (a.put (some dj) vj).eval (opAt ops i)).run P w1=.ok (.value vi) w1)
    (hj0:(execOp a.eval (opAt ops j)).run P w=.ok (.enter f args) w) (hj1:(execOp (a.put (some di) vi).eval (opAt ops j)).run P w=.ok (.enter f args) w) (hc:Calls P f args w R)
    (h:∀ e w5,R e w5→Below w.heap.size w w5∧∃ vj,e=.returned vj∧wpAnyH P .any ops Q S fuel ((listed.setIfInBounds i true).setIfInBounds j true) ((a.put (some di) vi).put (some dj) vj) w5):wpAnyH P .any ops Q S (fuel+2) listed a w:=by
 simp only [Bool.and_eq_true,Bool.or_eq_true,beq_iff_eq] at hst;obtain ⟨⟨⟨⟨⟨⟨g1,g2⟩,n1⟩,n2⟩,r0⟩,ri⟩,rj⟩:=hst;have wi:∀ y,Region.wanted (opAt ops i) y=true:=fun y=>by simp [Region.wanted,Option.isNone_iff_eq_none.1 n1]
 have wj:∀ y,Region.wanted (opAt ops j) y=true:=fun y=>by simp [Region.wanted,Option.isNone_iff_eq_none.1 n2]
 have cij:∀ (b:Act) (v u:Value),(b.put (some dj) u).put (some di) v=(b.put (some di) v).put (some dj) u:=fun b v u=>Act.put_comm b u v (fun d h1 h2=>nij (by cases h1;cases h2;rfl))
 have p1:wpOp P ops Q i (fun a' w'=>S w'∧wpAnyH P .any ops Q S (fuel+1) (listed.setIfInBounds i true) a' w') a w:=by
  refine wpOp_value vi (get_opAt g1) (wi _) hi0 ⟨hS,wpAnyH_one ri ?_⟩;rw [hdi];refine wpOp_callE f args R (get_opAt g2) (wj _) hj1 hc (fun e w5 hR=>?_)
  obtain ⟨hb,vj,rfl,h3⟩:=h e w5 hR;refine ⟨vj,rfl,hSn _ hb,?_⟩;rw [hdj];exact h3
 have p2:wpOp P ops Q j (fun a' w'=>S w'∧wpAnyH P .any ops Q S (fuel+1) (listed.setIfInBounds j true) a' w') a w:=by
  refine wpOp_callE f args R (get_opAt g2) (wj _) hj0 hc (fun e w5 hR=>?_)
  obtain ⟨hb5,vj,rfl,h3⟩:=h e w5 hR;refine ⟨vj,rfl,hSn _ hb5,wpAnyH_one rj ?_⟩;rw [hdj];refine wpOp_value vi (get_opAt g1) (wi _) (hi1 vj w5 hb5) ⟨hSn _ hb5,?_⟩;rw [hdi,cij,Array.setIfInBounds_comm _ _ (Ne.symm eij)];exact h3
 rcases r0 with r0|r0
 ·exact wpAnyH_two r0 p1 p2
 ·exact wpAnyH_two r0 p2 p1
theorem then_normal {K:Act→World→Prop} {Q:Exit→Act→World→Prop} {a:Act} {w:World} (h:K a w):Exit.then K Q .normal a w:=h
theorem own_blk_any {β:Type} (B b:Nat) (t:TypeId) (cs:List Value):OwnFrom (β:=β) B (fun _ W=>Blk W b t cs):=fun s W W' row h hg hr=>by
 have h':Blk W b t cs:=h;have:=hg.block b h'.lt (fun e=>by
  obtain ⟨-,o,ho,hc⟩:=hr b e.symm;unfold Blk at h';rw [h'] at ho;obtain rfl:=Option.some.inj ho;cases hc)
 show Blk W' b t cs;unfold Blk at h' ⊢;rw [this,h']
theorem results_cell1 {P : Program} {fn : Func} {p : Tmp} {ty : TypeId} (h : fn.results = #[.cell p ty]) (tmps : Array Value) (w : World) (g : Nat) (v : Value) (hp : tmps.getD p undef = .pointer (some ⟨g, 0, none⟩)) (hc : w.cell? ⟨g, 0, none⟩ = some v)
    (d:TypeDesc) (hd:P.underlying ty=some d) (hr:d.isRow=false):(results fn tmps).run P w=.ok v w:=by
 have hagg:(isAgg ty).run P w=.ok false w:=by
  unfold isAgg;rw [Sem.run_bind,run_underlying hd w];cases d<;>simp_all
 have hl:(loadVar ty ⟨g,0,none⟩).run P w=.ok v w:=by
  simp [loadVar,Sem.run_bind,hagg,hc]
 have hp':tmps[p]?.getD undef=.pointer (some ⟨g,0,none⟩):=by simpa using hp
 simp [results,h,hp',asAddr,hl]
end Go.Proofs.YtmceocgddaaohaaGreatDoor
namespace Go.Proofs.YtmceocgddaaohaaGreatDoor
open Go Go.RowKit
set_option maxRecDepth 100000
def z5T:List Value:=[.int .i64 0,.int .i64 0,strT [],.slice none 0 0,.slice none 0 0]
section
variable {P:Program} {ops:Array Oper} {Q:Exit→Act→World→Prop} {a:Act} {w:World}
theorem lin_alloc1 (i : Nat) (ty : TypeId) (z : Value) (q : Nat) (d : Option Tmp) (hi : (ops[i]?.isSome && Region.wanted (opAt ops i) (yielded ops a.tmps)) = true) (hd : (opAt ops i).dst = d)
    (ho:(opAt ops i).op=.alloc ty) (hz:(P.info? ty).map (·.zero)=some (some z)) (hz1:z.cells=#[z]) (hq:Hid (w.heap.size=q))
    (h:∀ w',Blk w' q ty [z]→Below q w w'→Hid (w'.heap.size=q+1)→wpFrom P ops Q (i+1) (a.put d (.pointer (some ⟨q,0,none⟩))) w'):wpFrom P ops Q i a w:=by
 obtain rfl:=hq.out;have hr:(execOp a.eval (opAt ops i)).run P w=.ok (.value (.pointer (some ⟨w.heap.size,0,none⟩))) (w.alloc (.cells [z].toArray ty)):=by
  rw [exec_alloc ty ho z hz,hz1]
 exact lin_value i _ d _ hi hd hr (h _ (Blk.new w ty [z]) ((Below.refl _ _).alloc (Nat.le_refl _) _) (by unfold Hid;simp))
theorem lin_box1 (i : Nat) (ty : TypeId) (x : Operand) (v : Value) (q : Nat) (d : Option Tmp) (hi : (ops[i]?.isSome && Region.wanted (opAt ops i) (yielded ops a.tmps)) = true) (hd : (opAt ops i).dst = d)
    (ho:(opAt ops i).op=.box ty x) (hx:a.eval x=v) (hv:v.cells=#[v]) (hq:Hid (w.heap.size=q))
    (h:∀ w',Blk w' q ty [v]→Below q w w'→Hid (w'.heap.size=q+1)→wpFrom P ops Q (i+1) (a.put d (.pointer (some ⟨q,0,none⟩))) w'):wpFrom P ops Q i a w:=by
 obtain rfl:=hq.out;have hr:(execOp a.eval (opAt ops i)).run P w=.ok (.value (.pointer (some ⟨w.heap.size,0,none⟩))) (w.alloc (.cells [v].toArray ty)):=by
  unfold execOp;rw [show [v].toArray=v.cells from hv.symm];simp only [ho,hx,Instr.box]
  rfl
 exact lin_value i _ d _ hi hd hr (h _ (Blk.new w ty [v]) ((Below.refl _ _).alloc (Nat.le_refl _) _) (by unfold Hid;simp))
theorem lin_put1 (i : Nat) (ty : TypeId) (x y : Operand) (b : Nat) (t : TypeId) (u v : Value) (hi : (ops[i]?.isSome && Region.wanted (opAt ops i) (yielded ops a.tmps)) = true) (hd : (opAt ops i).dst = none)
    (ho:(opAt ops i).op=.store ty x y) (hx:a.eval x=.pointer (some ⟨b,0,none⟩)) (hy:a.eval y=v) (hb:Blk w b t [u]) (hz:(P.info? ty).map (·.size)=some 1) (hv:v.cells=#[v]) (h1:v.oneCell'=true)
    (h:∀ w',Blk w' b t [v]→Upd b w w'→wpFrom P ops Q (i+1) (a.put none undef) w'):wpFrom P ops Q i a w:=
 lin_store i (w.setCell ⟨b,0,none⟩ v) hi hd (exec_store_cell ty x y ho b 0 v hx hy t [u] hb (by simp) hz hv h1) (h _ (by simpa using hb.set 0 v) ((Upd.refl b w).setCell 0 v))
end
def strV:Value→Bool
 |.string _=>true
 |_=>false
def firm:Obj→Bool
 |.cells cs ..=>cs.any fun v=>!strV v
 |_=>false
theorem firm_cells {o:Obj} (h:firm o=true):o.isCells=true:=by
 cases o<;>first|rfl|(cases h;done)
structure KeepC (G:List Nat) (W W':World):Prop where
 size:W.heap.size≤W'.heap.size
 same:∀ k o,k∉G→W.heap[k]?=some o→firm o=true→W'.heap[k]?=some o
theorem KeepC.refl (G:List Nat) (W:World):KeepC G W W:=⟨Nat.le_refl _,fun _ _ _ h _=>h⟩
theorem KeepC.trans {G:List Nat} {A B C:World} (h:KeepC G A B) (k:KeepC G B C):KeepC G A C:=⟨Nat.le_trans h.size k.size,fun i o hg ho hc=>k.same i o hg (h.same i o hg ho hc) hc⟩
theorem KeepC.put {w:World} (G:List Nat) (W:World) (l:Nat) (o o':Obj) (_:w.heap.size≤l) (h:W.heap[l]?=some o) (hc:o.isCells=false) (_:o.isWalk=false):KeepC G W (W.putObj l o'):=
 ⟨by simp,fun k u _ hu hcu=>by
  by_cases e:k=l
  ·subst e
   rw [h] at hu;obtain rfl:=Option.some.inj hu;rw [firm_cells hcu] at hc;cases hc
  ·rw [World.putObj_heap_other e]
   exact hu⟩
theorem KeepC.of_below {G:List Nat} {A B:World} (h:Below A.heap.size A B):KeepC G A B:=⟨h.size,fun k _ _ ho _=>(h.block k (Array.getElem?_eq_some_iff.1 ho).1).trans ho⟩
theorem KeepC.of_keeps {G:List Nat} {A B:World} (h:Keeps G A B):KeepC G A B:=⟨h.size,fun k _ hg ho _=>(h.same k (Array.getElem?_eq_some_iff.1 ho).1 hg).trans ho⟩
theorem KeepC.blk {G:List Nat} {W W':World} (h:KeepC G W W') {b:Nat} {t:TypeId} {cs:List Value} (hb:Blk W b t cs) (hG:b∉G) (hv:(cs.any fun v=>!strV v)=true:=by rfl):Blk W' b t cs:=h.same b _ hG hb (by simpa [firm] using hv)
theorem KeepC.heap {G:List Nat} {W W':World} (h:KeepC G W W') {p:Addr} {v:Value} (hc:W.cell? p=some v) (hG:p.block∉G) (hv:strV v=false):W'.heap[p.block]?=W.heap[p.block]?:=by
 have hlt:=block_lt_of_cell hc;obtain ⟨o,ho⟩:∃ o,W.heap[p.block]?=some o:=⟨_,Array.getElem?_eq_getElem hlt⟩;rw [ho];refine h.same _ _ hG ho ?_;unfold World.cell? at hc;rw [ho] at hc;cases o with
 |cells c e f=>
  simp only [Option.ite_none_left_eq_some] at hc;obtain ⟨hj,rfl⟩:=Array.getElem?_eq_some_iff.1 hc.2;exact Array.any_eq_true.2 ⟨p.off,hj,by rw [hv];rfl⟩
 |_=>simp at hc
theorem KeepC.range {G:List Nat} {W W':World} (h:KeepC G W W') {b o:Nat} {cs:List Value} (hr:W.rangeAt b o cs) (hG:b∉G) (h0:∀ v,cs[0]?=some v→strV v=false):W'.rangeAt b o cs:=fun j u hu=>by
 obtain ⟨v,hv⟩:∃ v,cs[0]?=some v:=⟨_,List.getElem?_eq_getElem (by have:=(List.getElem?_eq_some_iff.1 hu).1;omega)⟩;have e:=h.heap (hr 0 v hv) hG (h0 v hv);rw [World.cell?_of_block (w:=W) (a:=⟨b,o+j,none⟩) e];exact hr j u hu
theorem ints_firm {k:IntKind} {zs:List Int} (v:Value) (h:(ints k zs)[0]?=some v):strV v=false:=by
 unfold ints at h;rw [List.getElem?_map] at h;cases zs with
 |nil=>cases h
 |cons z zs=>cases h;rfl
theorem TmAt.firm {F:List Nat} {w:World} {t:Tm} {cs:List Value} (h:TmAt F w t cs) (v:Value) (hv:cs[0]?=some v):strV v=false:=by
 obtain ⟨lv,av,rfl,-,-⟩:=h.open;cases hv
 rfl
theorem LvsOff.keepC {G:List Nat} {W W':World} {v:Value} {ls:List Lv} (hk:KeepC G W W') (h:LvsOff G W v ls):LvsOff G W' v ls:=by
 obtain ⟨a,cap,h1,h2,h3,h4,h5⟩:=h;refine ⟨a,cap,h1,h2,h3,h4,fun hp=>?_⟩
 obtain ⟨pb,po,e,hF,hb,hr⟩:=h5 hp;exact ⟨pb,po,e,hF,Nat.lt_of_lt_of_le hb hk.size,fun i l hi=>hk.range (hr i l hi) hF ints_firm⟩
mutual
theorem TmAt.keepC {G:List Nat} {W W':World} (hk:KeepC G W W'):∀ (t:Tm) (cs:List Value),TmAt G W t cs→TmAt G W' t cs
 |.mk k n s l a,cs,h=>by
  rw [TmAt] at h ⊢;obtain ⟨lv,av,h1,h2,h3⟩:=h;exact ⟨lv,av,h1,h2.keepC hk,TmsAt.keepC hk a av h3⟩
theorem TmsAt.keepC {G:List Nat} {W W':World} (hk:KeepC G W W'):∀ (ts:List Tm) (v:Value),TmsAt G W ts v→TmsAt G W' ts v
 |[],v,h=>by
  rw [TmsAt] at h ⊢;exact h
 |t::ts,v,h=>by
  rw [TmsAt] at h ⊢;obtain ⟨cap,pb,po,h1,h2,h3,h4,h5⟩:=h;exact ⟨cap,pb,po,h1,h2,h3,Nat.lt_of_lt_of_le h4 hk.size,TmRow.keepC hk (t::ts) pb po h3 h5⟩
theorem TmRow.keepC {G:List Nat} {W W':World} (hk:KeepC G W W'):∀ (ts:List Tm) (pb po:Nat),pb∉G→TmRow G W ts pb po→TmRow G W' ts pb po
 |[],_,_,_,_=>by rw [TmRow];trivial
 |t::ts,pb,po,hF,h=>by
  rw [TmRow] at h ⊢;obtain ⟨⟨cs,h1,h2⟩,h3⟩:=h;exact ⟨⟨cs,hk.range h1 hF h2.firm,TmAt.keepC hk t cs h2⟩,TmRow.keepC hk ts pb (po+5) hF h3⟩
end
def moreD (k:Int) (i N:Nat):Int:=if i+1=N∧(k=6∨k=7∨k=8) then 1 else 0
mutual
def walkT:Tm→Int→List (Tm × Int)
 |.mk k n s l a,d=>(.mk k n s l a,d)::walkTs k d a.length 0 a
def walkTs (k d:Int) (N i:Nat):List Tm→List (Tm × Int)
 |[]=>[]
 |t::ts=>walkT t (d+moreD k i N)++walkTs k d N (i+1) ts
end
structure Nd (G:List Nat) (w:World) where
 t:Tm
 cs:List Value
 d:Int
 at_:TmAt G w t cs
 sm:SmT t
 d0:0≤d
def Nd.enc {G:List Nat} {w:World} (x:Nd G w):Array Value:=#[.agg x.cs.toArray,.int .i64 x.d]
def Nd.pr {G:List Nat} {w:World} (x:Nd G w):Tm × Int:=(x.t,x.d)
theorem walkTs_of {G : List Nat} {w : World} (k d : Int) (N : Nat) (f : Nat → List (Nd G w)) : ∀ (a : List Tm) (i : Nat), (∀ (j : Nat) (c : Tm), a[j]? = some c → (f (i + j)).map Nd.pr = walkT c (d + moreD k (i + j) N)) →
    (((List.range' i a.length).map f).flatten).map Nd.pr=walkTs k d N i a
 |[],i,_=>by simp [walkTs]
 |c::a,i,h=>by
  have h0:=h 0 c rfl;rw [Nat.add_zero] at h0;rw [List.length_cons,List.range'_succ,List.map_cons,List.flatten_cons,List.map_append,walkTs,h0]
  congr 1
  refine walkTs_of k d N f a (i+1) fun j c' hj=>?_;have:=h (j+1) c' (by simpa using hj);rw [show i+1+j=i+(j+1) by omega];exact this
def gone {G:List Nat} {w:World} (f:Nat→List (Nd G w)) (i:Nat):List (Nd G w):=((List.range i).map f).flatten
theorem gone_succ {G:List Nat} {w:World} (f:Nat→List (Nd G w)) (i:Nat):gone f (i+1)=gone f i++f i:=by simp [gone,List.range_succ]
theorem gone_pre {G:List Nat} {w:World} (f:Nat→List (Nd G w)) {i n:Nat} (h:i≤n):gone f i <+: gone f n:=by
 induction n with
 | zero => obtain rfl : i = 0 := by omega
           exact List.prefix_rfl
 |succ n ih=>
  by_cases e:i=n+1
  ·rw [e]
   exact List.prefix_rfl
  ·rw [gone_succ]
   exact (ih (by omega)).trans (List.prefix_append _ _)
theorem binder_walk (k:Int) (w:World):Calls Tryz.prog 74 #[.int .i64 k] w fun e w'=>e=.returned (.bool (decide (k=6∨k=7∨k=8)))∧w'=w:=by
 by_cases h6:k=6
 ·subst h6
  go_enter Tryz.func74,Tryz.ntmps74
  go_wp2;go_ret;exact ⟨rfl,rfl⟩
 ·by_cases h7:k=7
  ·subst h7
   go_enter Tryz.func74,Tryz.ntmps74
   go_wp2;go_ret;exact ⟨rfl,rfl⟩
  ·by_cases h8:k=8
   ·subst h8
    go_enter Tryz.func74,Tryz.ntmps74
    go_wp2;go_ret;exact ⟨rfl,rfl⟩
   ·go_enter Tryz.func74,Tryz.ntmps74
    go_wp2;go_ret;exact ⟨by simp [h6,h7,h8],rfl⟩
theorem grown_of_below {w w':World} (h:Below w.heap.size w w'):w.grownBy w' none:=⟨h.os,h.tape,h.output,h.size,fun k hk _=>h.block k hk⟩
theorem abides_below {β:Type} {B:Nat} {J:β→World→Prop} (hJ:AbidesFrom B J) {s:β} {w w':World} (h:J s w) (hb:Below w.heap.size w w'):J s w':=hJ s w w' none h (grown_of_below hb) (fun r e=>by cases e)
def YieldsT (G:List Nat) (w0:World) (l N:Nat) (J Jx:List (Nd G w0)→World→Prop):Prop:=∀ m pre (x:Nd G w0) W,J pre W→pre.length<N→YieldAt Fence.wide m Tryz.prog l x.enc W fun e W'=>
 (e=.returned (.bool true)∧J (pre++[x]) W'∧KeepC G W W')∨(e=.returned (.bool false)∧Jx (pre++[x]) W')
structure ItBlks (G:List Nat) (l b1 b2:Nat) (W:World):Prop where
 y:Blk W b1 132 [.func (.yield l) #[] #[]]
 v:Blk W b2 132 [.func (.func 73) #[] #[.pointer (some ⟨b1,0,none⟩),.pointer (some ⟨b2,0,none⟩)]]
 g1:b1∉G
 g2:b2∉G
theorem ItBlks.keep {G:List Nat} {l b1 b2:Nat} {W W':World} (h:ItBlks G l b1 b2 W) (k:KeepC G W W'):ItBlks G l b1 b2 W':=⟨k.blk h.y h.g1,k.blk h.v h.g2,h.g1,h.g2⟩
theorem ItBlks.below {G:List Nat} {l b1 b2:Nat} {W W':World} (h:ItBlks G l b1 b2 W) (k:Below W.heap.size W W'):ItBlks G l b1 b2 W':=h.keep (KeepC.of_below k)
theorem nodesT_mem:∀ {a:List Tm} {c:Tm},c∈a→nodesT c+1≤1+nodesTs a
 |x::a,c,h=>by
  rw [nodesTs];rcases List.mem_cons.1 h with rfl|h
  ·omega
  ·have:=nodesT_mem h
   omega
theorem exec_eqli {P:Program} {a:Act} {w:World} {op:Oper} {x y:Int} (h:¬ x=y) (he:execOp a.eval op=(pure (.value (.bool (decide (x=y)))):Sem Next)):(execOp a.eval op).run P w=.ok (.value (.bool false)) w:=by
 rw [he,decide_eq_false h]
 rfl
theorem exec_eqli_yes {P:Program} {a:Act} {w:World} {op:Oper} {x y:Int} (h:x=y) (he:execOp a.eval op=(pure (.value (.bool (decide (x=y)))):Sem Next)):(execOp a.eval op).run P w=.ok (.value (.bool true)) w:=by
 rw [he,decide_eq_true h]
 rfl
def VisitOk (G:List Nat) (w0:World) (l M b1 b2:Nat) (J Jx:List (Nd G w0)→World→Prop) (xs:List (Nd G w0)) (cs:List Value) (d:Int):Prop:=
 ∀ (pre:List (Nd G w0)) (W:World),KeepC G w0 W→J pre W→pre.length+xs.length≤M→(∀ g∈G,g<W.heap.size)→ItBlks G l b1 b2 W→
  Calls Tryz.prog 73 #[.agg cs.toArray,.int .i64 d,.pointer (some ⟨b1,0,none⟩),.pointer (some ⟨b2,0,none⟩)] W fun e W'=>
   (e=.returned (.bool true)∧J (pre++xs) W'∧KeepC G W W')∨(e=.returned (.bool false)∧∃ q,q <+: xs∧Jx (pre++q) W')
set_option maxHeartbeats 4000000 in
theorem visit_walk (G : List Nat) (w0 : World) : ∀ (t : Tm) (cs : List Value) (d : Int), TmAt G w0 t cs → SmT t → 0 ≤ d → d + (nodesT t : Int) ≤ 1000000000000 → ∃ xs : List (Nd G w0), xs.map Nd.pr = walkT t d ∧
    ∀ (l M b1 b2:Nat) (J Jx:List (Nd G w0)→World→Prop) (B:Nat),Hid (AbidesFrom B J)→YieldsT G w0 l M J Jx→VisitOk G w0 l M b1 b2 J Jx xs cs d:=by
 refine Tm.byParts fun k n s ls a ih cs d ht hs h0 hd=>?_;obtain ⟨lv,av,rfl,h1,h2⟩:=ht.open;obtain ⟨-,sl,sa,ss⟩:=hs.open;dsimp only [Tm.kind,Tm.n,Tm.name,Tm.levels,Tm.args] at ht h1 h2 sl sa ss ⊢;obtain ⟨la,lc,rfl⟩:=h1.slice;obtain ⟨aa,ac,rfl⟩:=h2.slice;have hr:reachBytes=140737488351232:=rfl;obtain ⟨L,hL⟩:∃ L,Hid (ls.length=L):=⟨_,rfl⟩;obtain ⟨N,hN⟩:∃ N,Hid (a.length=N):=⟨_,rfl⟩;rw [hL.out] at sl ht ⊢;rw [hN.out] at sa h2 ht ⊢;rw [hr] at sl sa;have hnd:nodesT (.mk k n s ls a)=1+ls.length+nodesTs a:=by rw [nodesT]
 have each : ∀ i : Nat, ∃ z : List (Nd G w0) × Tm × Nat × Nat × List Value, i < N → a[i]? = some z.2.1 ∧ aa = some ⟨z.2.2.1, z.2.2.2.1, none⟩ ∧ z.2.2.1 ∉ G ∧ (w0.rangeAt z.2.2.1 (z.2.2.2.1 + 5 * i) z.2.2.2.2 ∧ ∀ v, z.2.2.2.2[0]? = some v → strV v = false) ∧ z.2.2.2.2.length = 5 ∧ (∀ u ∈ z.2.2.2.2, u.oneCell' = true) ∧ z.1.map Nd.pr = walkT z.2.1 (d + moreD k i N) ∧
     (∀ (l M b1 b2:Nat) (J Jx:List (Nd G w0)→World→Prop) (B:Nat),Hid (AbidesFrom B J)→YieldsT G w0 l M J Jx→VisitOk G w0 l M b1 b2 J Jx z.1 z.2.2.2.2 (d+moreD k i N)):=fun i=>by
  by_cases hi:i<N
  ·obtain ⟨c,pb,po,ci,hci,hcm,haa,hpb,-,-,hcr,hct⟩:=h2.get hN.out hi
   have m01:0≤moreD k i N∧moreD k i N≤1:=by unfold moreD;split<;>omega
   have hle:=nodesT_mem hcm;obtain ⟨ys,e1,e2⟩:=ih c hcm ci (d+moreD k i N) hct (SmTs.mem ss hcm) (by omega) (by omega);exact ⟨(ys,c,pb,po,ci),fun _=>⟨hci,haa,hpb,⟨hcr,hct.firm⟩,hct.len,hct.one,e1,e2⟩⟩
  ·exact ⟨([],.mk 0 0 [] [] [],0,0,[]),fun h=>absurd h hi⟩
 obtain ⟨Z,hall⟩:=Classical.axiomOfChoice each;obtain ⟨f,hf⟩:∃ f:Nat→List (Nd G w0),f=fun i=>(Z i).1:=⟨_,rfl⟩
 have hfi:∀ i,(Z i).1=f i:=fun i=>by rw [hf]
 clear each hf;obtain ⟨x0,hx0,hxc,hxd⟩:∃ x0:Nd G w0,x0.pr=(.mk k n s ls a,d)∧x0.cs=[.int .i64 k,.int .i64 n,strT s,.slice la L lc,.slice aa N ac]∧x0.d=d:=⟨⟨.mk k n s ls a,_,d,ht,hs,h0⟩,rfl,rfl,rfl⟩;refine ⟨x0::gone f N,?_,fun l M b1 b2 J Jx B hJ hY pre W hk hJ0 hlen hGW IT=>?_⟩
 ·rw [List.map_cons,hx0,walkT,hN.out]
  congr 1
  have:=walkTs_of (w:=w0) k d N f a 0 (fun j c hj=>by
   obtain ⟨e,-,-,-,-,-,em,-⟩:=hall (0+j) (by have:=(List.getElem?_eq_some_iff.1 hj).1;have:=hN.out;omega);rw [Nat.zero_add] at e;rw [Nat.zero_add] at em ⊢;have e2:=Option.some.inj (hj.symm.trans e);rw [hfi,← e2] at em;exact em)
  rw [hN.out,← List.range_eq_range'] at this;exact this
 have HALL:=hZ hall;clear hall ih;have YY:=hZ hY;clear hY;have GW:=hZ hGW;clear hGW;obtain ⟨q,hq⟩:∃ q,Hid (W.heap.size=q):=⟨_,rfl⟩;obtain ⟨sv,hsv⟩:∃ x,Hid (strT s=x):=⟨_,rfl⟩;obtain ⟨CS,hCS⟩:∃ x,Hid ([.int .i64 k,.int .i64 n,strT s,.slice la L lc,.slice aa N ac]=x):=⟨_,rfl⟩;have CL:Hid (CS.length=5):=(by rw [Hid,← hCS.out];rfl);have CF:Hid ((CS.any fun v=>!strV v)=true):=by rw [Hid,← hCS.out];rfl
 have XC:Hid (x0.cs=CS):=(by rw [Hid,hxc,hCS.out]);have XD:Hid (x0.d=d):=hxd;rw [hCS.out] at ht ⊢;have C1:Hid (∀ u∈CS,u.oneCell'=true):=ht.one;clear ht h1 h2 ss hxc hxd hs hsv hx0;have JJ:=hZ hJ0;have KK:=hZ hk;have IB:=hZ IT;clear hJ0 hk IT;have HL:=hZ hlen;clear hlen;have ND:=hZ hnd;clear hnd
 go_enter Tryz.func73,Tryz.ntmps73
 go_upto_region 0 with (fail);refine lbeg (opsOf Tryz.f73 0) ?_;refine lbox 0 25 (.tmp 0) (CS) (q) (some 4) hq ?_;intro w1 bw1 bew1 hsw1;refine lnow 1 (.bool false) (some 6) ?_;refine ldn 2 ?_;have BQ:=hZ bw1;have BE:=hZ (show Below W.heap.size W w1 by rw [hq.out];exact bew1);have J1:=hZ (abides_below hJ.out JJ.out BE.out);have K1:=hZ (KK.out.trans (KeepC.of_below (G:=G) BE.out));have I1:=hZ (IB.out.below BE.out);have KW:Hid (KeepC G W w1):=KeepC.of_below BE.out;have QG:Hid (q∉G):=fun hg=>by have:=GW.out q hg;rw [hq.out] at this;omega
 have GW1:Hid (∀ g∈G,g<w1.heap.size):=fun g hg=>by have:=GW.out g hg;have:=BE.out.size;omega
 clear bw1 bew1 BE JJ KK IB hsw1;generalize hact:Act.put _ (some 6) _=act;simp only [Act.put,sA,sC,sZ] at hact;subst hact;obtain ⟨m0,hm0⟩:∃ m:Nat,Hid (m=0):=⟨_,rfl⟩;go_upto_region 1 with (fail);refine fin_begin (opsOf Tryz.f73 1) (by kernel_rfl) ?_;refine fin_now 0 (.func (.yield l) #[] #[]) (some 11) (by kernel_rfl) (by kernel_rfl) (exec_load_cell 132 (.tmp 2) (by kernel_rfl) (b1) 0 (by kernel_rfl) _ (I1.out.y.cell rfl) _ Tryz.underlying132 rfl) ?_;refine fin_now 1 (.agg (CS).toArray) (some 12) (by kernel_rfl) (by kernel_rfl) (exec_load_mid 25 (.tmp 4) (by kernel_rfl) (q) 0 (by kernel_rfl) (CS) _ (BQ.out).whole Tryz.underlying25 rfl (t5Size CL.out)) ?_;refine fin_now 2 (.int .i64 d) (some 13) (by kernel_rfl) (by kernel_rfl) (by kernel_rfl) ?_;have YA:=YY.out m0 pre x0 w1 J1.out (by have:=HL.out;simp at this;omega);unfold Nd.enc at YA;rw [XC.out,XD.out] at YA;refine fin_yield 3 m0 l #[.agg CS.toArray,.int .i64 d] (some 14) _ (by kernel_rfl) (by kernel_rfl) (fun fn tmps assign body h=>(congrArg (fun z:Sem Next=>z.run Tryz.prog w1) (show execOp _ _=Instr.yield l #[.agg CS.toArray,.int .i64 d] by kernel_rfl)).trans h) YA ?_;rintro e w2 (⟨rfl,hJ2,hk2⟩|⟨rfl,hx2⟩)
 rotate_left
 ·refine ⟨_,rfl,?_⟩
  refine fin_now 4 (.bool true) (some 15) (by kernel_rfl) (by kernel_rfl) (by kernel_rfl) ?_;refine fin_done 5 (by kernel_rfl) ?_;generalize hact:Act.put _ (some 15) _=act;simp only [Act.put,sA,sC,sZ] at hact;subst hact;go_wp2;go_ret;exact .inr ⟨rfl,[x0],⟨gone f N,rfl⟩,hx2⟩
 refine ⟨_,rfl,?_⟩;refine fin_now 4 (.bool false) (some 15) (by kernel_rfl) (by kernel_rfl) (by kernel_rfl) ?_;refine fin_done 5 (by kernel_rfl) ?_;have BQ2:=hZ (hk2.blk BQ.out QG.out CF.out);have J2:=hZ hJ2;have K2:=hZ (K1.out.trans hk2);have KW2:=hZ (KW.out.trans hk2);have I2:=hZ (I1.out.keep hk2);have GW2:Hid (∀ g∈G,g<w2.heap.size):=fun g hg=>by have:=GW1.out g hg;have:=hk2.size;omega
 clear BQ J1 K1 KW I1 GW1 hJ2 hk2 YA;generalize hact:Act.put _ (some 15) _=act;simp only [Act.put,sA,sC,sZ] at hact;subst hact;have c0:w2.cell? ⟨q,4,none⟩=some (.slice aa N ac):=BQ2.out.cell (by rw [← hCS.out];rfl);go_upto_region 3 with (fail);refine lbeg (opsOf Tryz.f73 3) ?_;refine lnow 0 (.pointer (some ⟨q,4,none⟩)) (some 16) ?_;refine lcl 1 (.slice aa N ac) (some 17) 23 16 (q) 4 (c0) Tryz.underlying23 ?_;refine lnow 2 (.int .i64 (N:Int)) (some 18) ?_;refine lnow 3 (.int .i64 (IntKind.i64.wrap ((N:Int)-1))) (some 19) ?_;rw [show IntKind.i64.wrap ((N:Int)-1)=(N:Int)-1 from IntWalk.i64_in _ (by omega)];obtain ⟨lz,hlz⟩:∃ x,Hid ((N:Int)-1=x):=⟨_,rfl⟩;rw [hlz.out];refine lnow 4 (.int .i64 lz) (some 7) ?_;refine ldq 5 ?_;go_upto_region 4 with (fail);refine lbeg (opsOf Tryz.f73 4) ?_;refine lnow 0 (.pointer (some ⟨q,4,none⟩)) (some 20) ?_;refine lcl 1 (.slice aa N ac) (some 21) 23 20 (q) 4 (c0) Tryz.underlying23 ?_;refine lnow 2 (.int .i64 (N:Int)) (some 22) ?_;refine lnow 3 (.int .i64 0) (some 23) ?_;refine ldq 4 ?_;clear c0;go_wp2
 go_loopw [23] (fun iv wr=>∃ i:Nat,i≤N∧iv=.int .i64 (i:Int)∧Hid (J (pre++x0::gone f i) wr)∧Hid (Blk wr q 25 CS)∧Hid (KeepC G w0 wr)∧Hid (KeepC G W wr)∧Hid (ItBlks G l b1 b2 wr)∧Hid (∀ g∈G,g<wr.heap.size)) (fun iv _=>N-(intOf iv).toNat)
 case atStart=>exact ⟨0,Nat.zero_le _,rfl,J2,BQ2,K2,KW2,I2,GW2⟩
 case round=>
  obtain ⟨i,hi,rfl,JR,BR,KR,KWR,IR,GR⟩:=hrel;by_cases hlt:i<N
  rotate_left
  ·have r1:¬ (i:Int)<(N:Int):=by omega
   obtain rfl:i=N:=(by omega);go_wp2;go_ret;exact .inl ⟨rfl,JR.out,KWR.out⟩
  have r1:(i:Int)<(N:Int):=(by omega);obtain ⟨hci,haa,hpb,hcr,hc5,hc1,hcm,hcall⟩:=HALL.out i hlt;rw [hfi] at hcm hcall;replace hcall:=hcall l M b1 b2 J Jx B hJ YY.out;generalize (Z i).2.2.2.2=ci at hcr hc5 hc1 hcall;generalize (Z i).2.2.1=pb at haa hpb hcr;generalize (Z i).2.2.2.1=po at haa hcr;subst haa;have hcr2:=hZ (KR.out.range hcr.1 hpb hcr.2);clear hcr hcm hci;have HC5:=hZ hc5;have HC1:=hZ hc1;have HCALL:=hZ hcall;clear hc5 hc1 hcall hpb;have LEN:Hid (pre.length+1+(gone f i).length+(f i).length≤M):=by
   have h1:=HL.out;have h2:=(gone_pre f (show i+1≤N by omega)).length_le;rw [gone_succ] at h2
   simp at h1 h2
   rw [Hid];omega
  obtain ⟨qr,hqr⟩:∃ x,Hid (wr.heap.size=x):=⟨_,rfl⟩;go_upto_region 6 with (fail);refine lbeg (opsOf Tryz.f73 6) ?_;refine lnow 0 (.int .i64 (i:Int)) (some 25) ?_;refine lix 1 (.pointer (some ⟨pb,po+5*i,none⟩)) (some 26) 23 21 23 (run_at_tm pb po N ac i hlt _) ?_;refine lrl 2 ci (some 27) 25 26 pb (po+5*i) hcr2.out Tryz.underlying25 (t5Size HC5.out) ?_;refine lall 3 25 z5T (qr) (some 9) hqr ?_;intro w3 bw3 bew3 hsw3;refine lnow 4 (.int .i64 (i:Int)) (some 8) ?_;refine lput 5 25 (.tmp 9) (.tmp 27) (qr) _ (z5T) (ci) bw3 (HC5.out.trans (rfl:z5T.length=5).symm) (t5Size HC5.out) (by simpa using HC1.out) ?_;intro w4 bw4 uw4;refine ldn 6 ?_;have B4:=hZ bw4;have BE:Hid (Below wr.heap.size wr w4):=by
   rw [Hid,hqr.out];exact uw4.below bew3 (Nat.le_refl _) (by have:=hqr.out;have:=bew3.size;omega)
  have J4:=hZ (abides_below hJ.out JR.out BE.out);have K4:=hZ (KR.out.trans (KeepC.of_below (G:=G) BE.out));have KW4:=hZ (KWR.out.trans (KeepC.of_below (G:=G) BE.out));have I4:=hZ (IR.out.below BE.out);have BQ4:Hid (Blk w4 q 25 CS):=BR.out.below BE.out BR.out.lt;have GW4:Hid (∀ g∈G,g<w4.heap.size):=fun g hg=>by have:=GR.out g hg;have:=BE.out.size;omega
  have k0:w4.cell? ⟨q,0,none⟩=some (.int .i64 k):=BQ4.out.cell (by rw [← hCS.out];rfl);clear bw3 bew3 hsw3 bw4 uw4 JR BR KR IR GR hcr2 BE;generalize hact:Act.put _ none _=act;simp only [Act.put,sA,sC,sZ] at hact;subst hact;go_upto_region 7 with (fail);refine lbeg (opsOf Tryz.f73 7) ?_;refine lnow 0 (.int .i64 d) (some 28) ?_;refine lnow 1 (.int .i64 d) (some 10) ?_;refine ldq 2 ?_;by_cases hlast:i+1=N
  rotate_left
  ·have rl:¬ (i:Int)=lz:=by have:=hlz.out;omega
   go_upto_region 8 with (fail);refine lbeg (opsOf Tryz.f73 8) ?_;refine lnow 0 (.int .i64 (i:Int)) (some 29) ?_;refine lnow 1 (.int .i64 lz) (some 30) ?_;refine lnowP 2 (.bool false) (some 31) (exec_eqli rl (by kernel_rfl)) ?_;refine lnow 3 (.bool false) (some 32) ?_;refine lpas 4 (some 33) ?_;refine lpas 5 (some 34) ?_;refine lpas 6 (some 35) ?_;refine lnow 7 (.bool false) (some 36) ?_;refine ldq 8 ?_;have HC:=HCALL.out (pre++x0::gone f i) w4 K4.out J4.out (by have:=LEN.out;simp;omega) GW4.out I4.out;rw [show d+moreD k i N=d by simp [moreD,hlast]] at HC;go_upto_region 10 with (fail);refine lbeg (opsOf Tryz.f73 10) ?_;refine lcl 0 (.func (.func 73) #[] #[.pointer (some ⟨b1,0,none⟩),.pointer (some ⟨b2,0,none⟩)]) (some 39) 132 3 (b2) 0 (I4.out.v.cell rfl) Tryz.underlying132 ?_;refine lrl 1 (ci) (some 40) 25 9 (qr) 0 (B4.out).whole Tryz.underlying25 (t5Size HC5.out) ?_;refine lnow 2 (.int .i64 d) (some 41) ?_;refine lcal 3 73 #[.agg ci.toArray,.int .i64 d,.pointer (some ⟨b1,0,none⟩),.pointer (some ⟨b2,0,none⟩)] (some 42) _ (HC) ?_;rintro e w5 (⟨rfl,hJ5,hk5⟩|⟨rfl,qq,hq5,hx5⟩)
   rotate_left
   ·refine ⟨_,rfl,?_⟩
    refine lnow 4 (.bool true) (some 43) ?_;refine ldq 5 ?_;go_wp2;go_ret;refine .inr ⟨rfl,x0::(gone f i++qq),?_,by simpa using hx5⟩;obtain ⟨z,hz⟩:=gone_pre f (show i+1≤N by omega);obtain ⟨y,hy⟩:=hq5;exact ⟨y++z,by rw [← hz,gone_succ,← hy];simp⟩
   refine ⟨_,rfl,?_⟩;refine lnow 4 (.bool false) (some 43) ?_;refine ldn 5 ?_;have J5:Hid (J (pre++x0::gone f (i+1)) w5):=(by rw [Hid,gone_succ];simpa using hJ5);have BQ5:Hid (Blk w5 q 25 CS):=hk5.blk BQ4.out QG.out CF.out;have K5:Hid (KeepC G w0 w5):=K4.out.trans hk5;have KW5:Hid (KeepC G W w5):=KW4.out.trans hk5;have I5:Hid (ItBlks G l b1 b2 w5):=I4.out.keep hk5;have GW5:Hid (∀ g∈G,g<w5.heap.size):=fun g hg=>by have:=GW4.out g hg;have:=hk5.size;omega
   clear hJ5 hk5 J4 BQ4 K4 KW4 I4 GW4 HC HCALL k0 B4;generalize hact:Act.put _ (some 43) _=act;simp only [Act.put,sA,sC,sZ] at hact;subst hact;go_wp2;go_roundw
   case rel=>exact ⟨i+1,by omega,by go_num,J5,BQ5,K5,KW5,I5,GW5⟩
   case measure=>simp [intOf];omega
  have rl:(i:Int)=lz:=(by have:=hlz.out;omega);by_cases hbk:k=6∨k=7∨k=8
  ·have hdk:decide (k=6∨k=7∨k=8)=true:=by simpa using hbk
   go_upto_region 8 with (fail);refine lbeg (opsOf Tryz.f73 8) ?_;refine lnow 0 (.int .i64 (i:Int)) (some 29) ?_;refine lnow 1 (.int .i64 lz) (some 30) ?_;refine lnowP 2 (.bool true) (some 31) (exec_eqli_yes rl (by kernel_rfl)) ?_;refine lnow 3 (.bool true) (some 32) ?_;refine lnow 4 (.pointer (some ⟨q,0,none⟩)) (some 33) ?_;refine lcl 5 (.int .i64 k) (some 34) 3 33 (q) 0 (k0) Tryz.underlying3 ?_;refine lcal 6 74 #[.int .i64 k] (some 35) _ (binder_walk k _) ?_;rintro e w6 ⟨rfl,hw6⟩;obtain rfl:=hw6.symm;rw [hdk];refine ⟨_,rfl,?_⟩;refine lnow 7 (.bool true) (some 36) ?_;refine ldq 8 ?_;go_upto_region 9 with (fail);refine lbeg (opsOf Tryz.f73 9) ?_;refine lnow 0 (.int .i64 d) (some 37) ?_;refine lnow 1 (.int .i64 (IntKind.i64.wrap (d+1))) (some 38) ?_;rw [show IntKind.i64.wrap (d+1)=d+1 from IntWalk.i64_in _ (by omega)];obtain ⟨d1,hd1⟩:∃ x,Hid (d+1=x):=⟨_,rfl⟩;rw [hd1.out];refine lnow 2 (.int .i64 d1) (some 10) ?_;refine ldq 3 ?_;have HC:=HCALL.out (pre++x0::gone f i) w4 K4.out J4.out (by have:=LEN.out;simp;omega) GW4.out I4.out;rw [show d+moreD k i N=d1 by simp [moreD,hlast,hbk,hd1.out]] at HC;go_upto_region 10 with (fail);refine lbeg (opsOf Tryz.f73 10) ?_;refine lcl 0 (.func (.func 73) #[] #[.pointer (some ⟨b1,0,none⟩),.pointer (some ⟨b2,0,none⟩)]) (some 39) 132 3 (b2) 0 (I4.out.v.cell rfl) Tryz.underlying132 ?_;refine lrl 1 (ci) (some 40) 25 9 (qr) 0 (B4.out).whole Tryz.underlying25 (t5Size HC5.out) ?_
   refine lnow 2 (.int .i64 d1) (some 41) ?_;refine lcal 3 73 #[.agg ci.toArray,.int .i64 d1,.pointer (some ⟨b1,0,none⟩),.pointer (some ⟨b2,0,none⟩)] (some 42) _ (HC) ?_;rintro e w5 (⟨rfl,hJ5,hk5⟩|⟨rfl,qq,hq5,hx5⟩)
   rotate_left
   ·refine ⟨_,rfl,?_⟩
    refine lnow 4 (.bool true) (some 43) ?_;refine ldq 5 ?_;go_wp2;go_ret;refine .inr ⟨rfl,x0::(gone f i++qq),?_,by simpa using hx5⟩;obtain ⟨z,hz⟩:=gone_pre f (show i+1≤N by omega);obtain ⟨y,hy⟩:=hq5;exact ⟨y++z,by rw [← hz,gone_succ,← hy];simp⟩
   refine ⟨_,rfl,?_⟩;refine lnow 4 (.bool false) (some 43) ?_;refine ldn 5 ?_;have J5:Hid (J (pre++x0::gone f (i+1)) w5):=(by rw [Hid,gone_succ];simpa using hJ5);have BQ5:Hid (Blk w5 q 25 CS):=hk5.blk BQ4.out QG.out CF.out;have K5:Hid (KeepC G w0 w5):=K4.out.trans hk5;have KW5:Hid (KeepC G W w5):=KW4.out.trans hk5;have I5:Hid (ItBlks G l b1 b2 w5):=I4.out.keep hk5;have GW5:Hid (∀ g∈G,g<w5.heap.size):=fun g hg=>by have:=GW4.out g hg;have:=hk5.size;omega
   clear hJ5 hk5 J4 BQ4 K4 KW4 I4 GW4 HC HCALL k0 B4;generalize hact:Act.put _ (some 43) _=act;simp only [Act.put,sA,sC,sZ] at hact;subst hact;go_wp2;go_roundw
   case rel=>exact ⟨i+1,by omega,by go_num,J5,BQ5,K5,KW5,I5,GW5⟩
   case measure=>simp [intOf];omega
  ·have hdk:decide (k=6∨k=7∨k=8)=false:=by simpa using hbk
   go_upto_region 8 with (fail);refine lbeg (opsOf Tryz.f73 8) ?_;refine lnow 0 (.int .i64 (i:Int)) (some 29) ?_;refine lnow 1 (.int .i64 lz) (some 30) ?_;refine lnowP 2 (.bool true) (some 31) (exec_eqli_yes rl (by kernel_rfl)) ?_;refine lnow 3 (.bool true) (some 32) ?_;refine lnow 4 (.pointer (some ⟨q,0,none⟩)) (some 33) ?_;refine lcl 5 (.int .i64 k) (some 34) 3 33 (q) 0 (k0) Tryz.underlying3 ?_;refine lcal 6 74 #[.int .i64 k] (some 35) _ (binder_walk k _) ?_;rintro e w6 ⟨rfl,hw6⟩;obtain rfl:=hw6.symm;rw [hdk];refine ⟨_,rfl,?_⟩;refine lnow 7 (.bool false) (some 36) ?_;refine ldq 8 ?_;have HC:=HCALL.out (pre++x0::gone f i) w4 K4.out J4.out (by have:=LEN.out;simp;omega) GW4.out I4.out;rw [show d+moreD k i N=d by simp [moreD,hbk]] at HC;go_upto_region 10 with (fail);refine lbeg (opsOf Tryz.f73 10) ?_;refine lcl 0 (.func (.func 73) #[] #[.pointer (some ⟨b1,0,none⟩),.pointer (some ⟨b2,0,none⟩)]) (some 39) 132 3 (b2) 0 (I4.out.v.cell rfl) Tryz.underlying132 ?_;refine lrl 1 (ci) (some 40) 25 9 (qr) 0 (B4.out).whole Tryz.underlying25 (t5Size HC5.out) ?_;refine lnow 2 (.int .i64 d) (some 41) ?_;refine lcal 3 73 #[.agg ci.toArray,.int .i64 d,.pointer (some ⟨b1,0,none⟩),.pointer (some ⟨b2,0,none⟩)] (some 42) _ (HC) ?_;rintro e w5 (⟨rfl,hJ5,hk5⟩|⟨rfl,qq,hq5,hx5⟩)
   rotate_left
   ·refine ⟨_,rfl,?_⟩
    refine lnow 4 (.bool true) (some 43) ?_;refine ldq 5 ?_;go_wp2;go_ret;refine .inr ⟨rfl,x0::(gone f i++qq),?_,by simpa using hx5⟩;obtain ⟨z,hz⟩:=gone_pre f (show i+1≤N by omega);obtain ⟨y,hy⟩:=hq5;exact ⟨y++z,by rw [← hz,gone_succ,← hy];simp⟩
   refine ⟨_,rfl,?_⟩;refine lnow 4 (.bool false) (some 43) ?_;refine ldn 5 ?_;have J5:Hid (J (pre++x0::gone f (i+1)) w5):=(by rw [Hid,gone_succ];simpa using hJ5);have BQ5:Hid (Blk w5 q 25 CS):=hk5.blk BQ4.out QG.out CF.out;have K5:Hid (KeepC G w0 w5):=K4.out.trans hk5;have KW5:Hid (KeepC G W w5):=KW4.out.trans hk5;have I5:Hid (ItBlks G l b1 b2 w5):=I4.out.keep hk5;have GW5:Hid (∀ g∈G,g<w5.heap.size):=fun g hg=>by have:=GW4.out g hg;have:=hk5.size;omega
   clear hJ5 hk5 J4 BQ4 K4 KW4 I4 GW4 HC HCALL k0 B4;generalize hact:Act.put _ (some 43) _=act;simp only [Act.put,sA,sC,sZ] at hact;subst hact;go_wp2;go_roundw
   case rel=>exact ⟨i+1,by omega,by go_num,J5,BQ5,K5,KW5,I5,GW5⟩
   case measure=>simp [intOf];omega
set_option maxHeartbeats 4000000 in
theorem iter1_walk (G : List Nat) (w0 : World) (l bt : Nat) (J Jx : List (Nd G w0) → World → Prop) (B : Nat) (hJ : Hid (AbidesFrom B J)) (xs : List (Nd G w0)) (cs : List Value) (hc5 : cs.length = 5) (W : World)
    (hbt:Blk W bt 25 cs) (hv:VisitOk G w0 l xs.length W.heap.size (W.heap.size+1) J Jx xs cs 0) (hG:∀ g∈G,g<W.heap.size) (hk:KeepC G w0 W) (h0:J [] W) :
    Calls Tryz.prog 72 #[.func (.yield l) #[] #[],.pointer (some ⟨bt,0,none⟩)] W fun e W'=>(∃ v,e=.returned v)∧((∃ ys,ys=xs∧J ys W')∨(∃ pre,pre <+: xs∧Jx pre W')):=by
 rw [show VisitOk G w0 l xs.length W.heap.size (W.heap.size+1) J Jx xs cs 0=VisitOk G w0 l xs.length (W.heap.size) (W.heap.size+1) J Jx xs cs 0 from rfl] at hv;obtain ⟨q,hq⟩:∃ q,Hid (W.heap.size=q):=⟨_,rfl⟩;have HC5:=hZ hc5;have BT:=hZ hbt;rw [hq.out] at hv;have HV:=hZ hv;have HG:=hZ hG;have HK:=hZ hk;have H0:=hZ h0;clear hc5 hbt hv hG hk h0
 go_enter Tryz.func72,Tryz.ntmps72
 go_upto_region 0 with (fail);refine lbeg (opsOf Tryz.f72 0) ?_;refine lin_box1 0 132 (.tmp 0) (.func (.yield l) #[] #[]) (q) (some 2) (by kernel_rfl) (by kernel_rfl) (by kernel_rfl) (by kernel_rfl) (by rfl) hq ?_;intro w1 bw1 bew1 hsw1;refine ldq 1 ?_;go_upto_region 1 with (fail);refine lbeg (opsOf Tryz.f72 1) ?_;refine lin_alloc1 0 132 (.nilFunc) (q+1) (some 3) (by kernel_rfl) (by kernel_rfl) (by kernel_rfl) (by kernel_rfl) (by rfl) hsw1 ?_;intro w2 bw2 bew2 hsw2;refine ldq 1 ?_;go_upto_region 2 with (fail);refine lbeg (opsOf Tryz.f72 2) ?_;refine lnow 0 (.func (.func 73) #[] #[.pointer (some ⟨q,0,none⟩),.pointer (some ⟨q+1,0,none⟩)]) (some 4) ?_;refine lin_put1 1 132 (.tmp 3) (.tmp 4) (q+1) _ (.nilFunc) (.func (.func 73) #[] #[.pointer (some ⟨q,0,none⟩),.pointer (some ⟨q+1,0,none⟩)]) (by kernel_rfl) (by kernel_rfl) (by kernel_rfl) (by kernel_rfl) (by kernel_rfl) bw2 (by kernel_rfl) (by rfl) (by rfl) ?_;intro w3 bw3 uw3;refine ldq 2 ?_;have BE:Hid (Below W.heap.size W w3):=by
  rw [Hid,hq.out];exact uw3.below (bew1.trans (bew2.mono (Nat.le_succ _))) (by omega) (by have:=bew1.size;have:=bew2.size;have:=hq.out;omega)
 have I3:Hid (ItBlks G l q (q+1) w3):=⟨uw3.blk (bw1.below bew2 (by omega)) (by omega),bw3,fun hg=>by have:=HG.out _ hg;have:=hq.out;omega,fun hg=>by have:=HG.out _ hg;have:=hq.out;omega⟩
 have BT3:=hZ (BT.out.below BE.out BT.out.lt);have J3:=hZ (abides_below hJ.out H0.out BE.out);have K3:=hZ (HK.out.trans (KeepC.of_below (G:=G) BE.out));have CALL:=HV.out [] w3 K3.out J3.out (by simp) (fun g hg=>by have:=HG.out g hg;have:=BE.out.size;omega) I3.out
 clear bw1 bew1 hsw1 bw2 bew2 hsw2 bw3 uw3 H0 HK HV J3 K3 HG BE BT;go_upto_region 3 with (fail);refine lbeg (opsOf Tryz.f72 3) ?_;refine lcl 0 (.func (.func 73) #[] #[.pointer (some ⟨q,0,none⟩),.pointer (some ⟨q+1,0,none⟩)]) (some 5) 132 3 (q+1) 0 (I3.out.v.cell rfl) Tryz.underlying132 ?_;refine lrl 1 (cs) (some 6) 25 1 (bt) 0 (BT3.out).whole Tryz.underlying25 (t5Size HC5.out) ?_;refine lcal 2 73 #[.agg cs.toArray,.int .i64 0,.pointer (some ⟨q,0,none⟩),.pointer (some ⟨q+1,0,none⟩)] (some 7) _ (CALL) ?_;rintro e w5 (⟨rfl,hJ5,hk5⟩|⟨rfl,qq,hq5,hx5⟩)
 ·refine ⟨_,rfl,?_⟩
  refine ldq 3 ?_;go_wp2
  go_end0
  exact ⟨⟨_,rfl⟩,.inl ⟨xs,rfl,by simpa using hJ5⟩⟩
 ·refine ⟨_,rfl,?_⟩
  refine ldq 3 ?_;go_wp2
  go_end0
  exact ⟨⟨_,rfl⟩,.inr ⟨qq,hq5,by simpa using hx5⟩⟩
set_option maxHeartbeats 4000000 in
theorem iter_walk (cs:List Value) (w:World):Calls Tryz.prog 44 #[.agg cs.toArray] w fun e w'=>e=.returned (.func (.func 72) #[] #[.pointer (some ⟨w.heap.size,0,none⟩)])∧Blk w' w.heap.size 25 cs∧Below w.heap.size w w'∧Hid (w'.heap.size=w.heap.size+1):=by
 obtain ⟨q,hq⟩:∃ q,Hid (w.heap.size=q):=⟨_,rfl⟩
 go_enter Tryz.func44,Tryz.ntmps44
 go_upto_region 0 with (fail);refine lbeg (opsOf Tryz.f44 0) ?_;refine lbox 0 25 (.tmp 0) (cs) (q) (some 1) hq ?_;intro w1 bw1 bew1 hsw1;refine lnow 1 (.nilFunc) (some 2) ?_;refine ldq 2 ?_;go_upto_region 1 with (fail);refine lbeg (opsOf Tryz.f44 1) ?_;refine lnow 0 (.func (.func 72) #[] #[.pointer (some ⟨q,0,none⟩)]) (some 3) ?_;refine lnow 1 (.func (.func 72) #[] #[.pointer (some ⟨q,0,none⟩)]) (some 2) ?_;refine ldq 2 ?_;go_wp2;go_ret;rw [hq.out];exact ⟨rfl,bw1,bew1,hsw1⟩
theorem nodes_stops (G : List Nat) (w0 : World) (t : Tm) (cs : List Value) (ht : TmAt G w0 t cs) (hs : SmT t) (hn : nodesT t ≤ 1000000000000) :
    ∃ xs:List (Nd G w0),xs.map Nd.pr=walkT t 0∧∀ (w:World) (bt:Nat),Blk w bt 25 cs→KeepC G w0 w→(∀ g∈G,g<w.heap.size)→
     SeqStopsK Fence.wide 0 Tryz.prog 72 #[.pointer (some ⟨bt,0,none⟩)] Nd.enc (KeepC G) (fun ys=>ys=xs) (fun p=>p <+: xs) xs.length w:=by
 obtain ⟨xs,h1,h2⟩:=visit_walk G w0 t cs 0 ht hs (Int.le_refl _) (by omega);refine ⟨xs,h1,fun w bt hbt hk hG l J Jx W hW hJ hJx hY h0=>?_⟩
 refine callsIn_wide.2 (iter1_walk G w0 l bt J Jx W.heap.size hJ xs cs ht.len W (hbt.below hW hbt.lt) (h2 l _ _ _ J Jx W.heap.size hJ ?_) (fun g hg=>by have:=hG g hg;have:=hW.size;omega) (hk.trans ⟨hW.size,fun k o _ ho _=>(hW.block k (Array.getElem?_eq_some_iff.1 ho).1).trans ho⟩) h0)
 intro m pre x W1 hJ1 hl;obtain ⟨fn,tmps,assign,body,hy,hR⟩:=hY pre x W1 hJ1 hl;exact ⟨fn,tmps,assign,body,hy,⟨trivial,fun c cs _=>hR.2 c cs (room_wide _)⟩⟩
end Go.Proofs.YtmceocgddaaohaaGreatDoor
namespace Go.Proofs.YtmceocgddaaohaaGreatDoor
open Go Go.RowKit
set_option maxRecDepth 100000
theorem own_keepC {β:Type} (B:Nat) (G:List Nat) (w:World):OwnFrom (β:=β) B (fun _ W=>KeepC G w W):=fun s W W' row h hg hr=>
 ⟨Nat.le_trans h.size hg.size,fun k o hk ho hc=>by
  have h1:=h.same k o hk ho hc;rw [hg.block k (Array.getElem?_eq_some_iff.1 h1).1 (fun e=>by
   obtain ⟨-,u,hu,hcu⟩:=hr k e.symm;rw [h1] at hu;obtain rfl:=Option.some.inj hu;rw [firm_cells hc] at hcu;cases hcu)]
  exact h1⟩
def postR {α:Type} (G:List Nat) (I:List α→World→Prop) (Ix:Code→List α→World→Prop) (xs:List α) (W:World):Exit→Act→World→Prop
 |.normal,_,W'=>Keeps G W W'∧I xs W'
 |.ret,_,W'=>Keeps G W W'∧Ix .ret xs W'
 |.exit id,_,W'=>Keeps G W W'∧Ix (.exit id) xs W'
 |_,_,_=>False
def Act.marked (a:Act) (D:Nat):Act:={ a with defers:={ target:=.collected D,args:=#[] }::a.defers }
set_option maxHeartbeats 1000000 in
theorem range_nodes {Q : Exit → Act → World → Prop} {a : Act} {w : World} {g : Operand} {p1 p2 : Tmp} {assign body : Code} (G : List Nat) (w0 u : World) (n bt : Nat) (xs : List (Nd G w0)) (hg : a.eval g = .func (.func 72) #[] #[.pointer (some ⟨bt, 0, none⟩)])
    (hseq:SeqStopsK Fence.wide 0 Tryz.prog 72 #[.pointer (some ⟨bt,0,none⟩)] Nd.enc (KeepC G) (fun ys=>ys=xs) (fun p=>p <+: xs) xs.length w) (hk0:KeepC G w0 w) (hu:Below n u w) (hn:n≤w.heap.size)
    (hG:∀ g∈G,g<w.heap.size) (hGn:∀ g∈G,n≤g)
    (I:List (Nd G w0)→World→Prop) (Ix:Code→List (Nd G w0)→World→Prop) (hI:OwnFrom w.heap.size I) (hIx:∀ c,OwnFrom w.heap.size (Ix c)) (h0:I [] w) (A1:Nd G w0→Nat→Act)
    (hassign:∀ (l:Nat) (x:Nd G w0) (W:World) (K:Act→World→Prop),(∀ W',Blk W' W.heap.size 25 x.cs→Below W.heap.size W W'→K (A1 x W.heap.size) W')→
     assign.wpIn (inR l) 0 Tryz.prog (Exit.then K (fun _ _ _=>False)) { tmps:=(a.tmps.setIfInBounds p1 (.agg x.cs.toArray)).setIfInBounds p2 (.int .i64 x.d),defers:=[] } W)
    (hbody:∀ (l:Nat) (pre:List (Nd G w0)) (x:Nd G w0) (nb:Nat) (W:World),I pre W→w.heap.size≤nb→Blk W nb 25 x.cs→TmAt G W x.t x.cs→Below n u W→n≤W.heap.size→pre.length<xs.length→body.wpIn (inR l) 0 Tryz.prog (postR G I Ix (pre++[x]) W) (A1 x nb) W)
    (hdone:∀ (D:Nat) (W:World),I xs W→w.heap.size≤D→W.heap[D]?=some (.deferred (some []))→Below n u W→Q .normal (Act.marked a D) W)
    (hstop:∀ (D:Nat) (c:Code) (pre:List (Nd G w0)) (W:World),pre <+: xs→Ix c pre W→w.heap.size≤D→W.heap[D]?=some (.deferred (some []))→Below n u W→c.wp Tryz.prog Q (Act.marked a D) W) :
    (Code.rangeFunc g #[p1,p2] assign body).wp Tryz.prog Q a w:=by
 refine (wpIn_wide (n:=1)).1 ?_;have keep:∀ {W W':World},Keeps G W W'→KeepsFrom w.heap.size W W':=fun h=>h.from hG
 have hIJ:OwnFrom w.heap.size (fun pre W=>I pre W∧(KeepC G w0 W∧w.heap.size≤W.heap.size)∧Below n u W∧n≤W.heap.size):=fun s A B row h hg2 hr=>
  ⟨hI s A B row h.1 hg2 hr,⟨own_keepC (β:=Unit) w.heap.size G w0 () A B row h.2.1.1 hg2 hr,Nat.le_trans h.2.1.2 hg2.size⟩,own_below (β:=Unit) w.heap.size n u hn () A B row h.2.2 hg2 hr⟩
 have hIxJ:∀ c,OwnFrom w.heap.size (fun pre W=>Ix c pre W∧Below n u W∧n≤W.heap.size):=fun c s A B row h hg2 hr=>
  ⟨hIx c s A B row h.1 hg2 hr,own_below (β:=Unit) w.heap.size n u hn () A B row h.2 hg2 hr⟩
 refine wpIn_rangeFunc_ownH (F:=Fence.wide) (n:=1) (gf:=72) (lb:=#[.pointer (some ⟨bt,0,none⟩)]) (encs:=Nd.enc) (Kp:=KeepC G) (S:=fun ys=>ys=xs) (Sp:=fun p=>p <+: xs) (N:=xs.length) (w0:=w) rfl (Nat.le_refl _) hg trivial
  (enters_of Tryz.func72 (by kernel_rfl) rfl) hseq (fun h k=>h.trans k) (fun W l o o'=>KeepC.put (w:=w) G W l o o') (Below.refl _ _) (fun _=>rfl)
  (fun pre W=>I pre W∧(KeepC G w0 W∧w.heap.size≤W.heap.size)∧Below n u W∧n≤W.heap.size) (fun c pre W=>Ix c pre W∧Below n u W∧n≤W.heap.size) hIJ hIxJ ⟨h0,⟨hk0,Nat.le_refl _⟩,hu,hn⟩
  (fun x a' W=>∃ nb,w.heap.size≤nb∧Blk W nb 25 x.cs∧a'=A1 x nb) (fun x a' s A B row h hg2 hr=>by
   obtain ⟨nb,e1,e2,e3⟩:=h;exact ⟨nb,e1,own_blk_any (β:=Unit) w.heap.size nb 25 x.cs () A B row e2 hg2 hr,e3⟩) ?_ ?_ ?_ ?_
 ·intro l pre x W K ⟨hi,⟨hkc,hwW⟩,hb,hnW⟩ hK
  have ez:(#[p1,p2].zip x.enc).foldl (fun (t:Array Value) (y:Tmp × Value)=>match y with|(p,v)=>t.setIfInBounds p v) a.tmps=(a.tmps.setIfInBounds p1 (.agg x.cs.toArray)).setIfInBounds p2 (.int .i64 x.d):=by
   unfold Nd.enc
   simp
  have ha:=hassign l x W K fun W' hnb hbl=>?_
  ·rw [← ez] at ha
   exact ha
  ·refine hK _ _ (keepsFrom_below hbl) (KeepC.of_below hbl) ⟨hI _ _ _ none hi (grown_of_below hbl) (fun r e=>by cases e),⟨hkc.trans (KeepC.of_below hbl),Nat.le_trans hwW hbl.size⟩,hb.trans (hbl.mono hnW),Nat.le_trans hnW hbl.size⟩ ⟨_,hwW,hnb,rfl⟩
 ·rintro l pre x a' W hl hrec ⟨hi,⟨hkc,hwW⟩,hb,hnW⟩ ⟨nb,e1,e2,rfl⟩ hlen
  refine wpIn_mono (hbody l pre x nb W hi e1 e2 (TmAt.keepC hkc _ _ x.at_) hb hnW hlen) fun e a2 W2 h=>?_;have low:Keeps G W W2→Below n u W2:=fun hk=>hk.lower hb hGn hnW
  cases e with
  |normal=>exact ⟨keep h.1,KeepC.of_keeps h.1,h.2,⟨hkc.trans (KeepC.of_keeps h.1),Nat.le_trans hwW h.1.size⟩,low h.1,Nat.le_trans hnW h.1.size⟩
  |ret=>exact ⟨keep h.1,h.2,low h.1,Nat.le_trans hnW h.1.size⟩
  |exit id=>exact ⟨keep h.1,h.2,low h.1,Nat.le_trans hnW h.1.size⟩
  |goto t=>exact h.elim
  |panic c=>exact h.elim
  |outgrown=>exact h.elim
 ·rintro D ys W hD rfl ⟨hi,-,hb,-⟩ hK
  exact hdone D W hi hD hK hb
 ·rintro D c pre W hD hp ⟨hi,hb,-⟩ hK
  exact (wpIn_wide (n:=1)).2 (hstop D c pre W hp hi hD hK hb)
set_option maxHeartbeats 1000000 in
theorem weight_walk {F:List Nat} (t:Tm) (cs:List Value) (w:World) (ht:TmAt F w t cs) (hs:SmT t):Calls Tryz.prog 45 #[.agg cs.toArray] w fun e w'=>e=.returned (.int .i64 ((1+t.levels.length:Nat):Int))∧Below w.heap.size w w':=by
 obtain ⟨lv,av,rfl,h1,h2⟩:=ht.open;obtain ⟨-,sl,-,-⟩:=hs.open;obtain ⟨la,lc,rfl⟩:=h1.slice;obtain ⟨aa,ac,rfl⟩:=h2.slice;have hr:reachBytes=140737488351232:=rfl;rw [hr] at sl;obtain ⟨L,hL⟩:∃ L,Hid (t.levels.length=L):=⟨_,rfl⟩;rw [hL.out] at sl ⊢;obtain ⟨N,hN⟩:∃ N,Hid (t.args.length=N):=⟨_,rfl⟩;rw [hN.out];obtain ⟨q,hq⟩:∃ q,Hid (w.heap.size=q):=⟨_,rfl⟩;obtain ⟨CS,hCS⟩:∃ x,Hid ([.int .i64 t.kind,.int .i64 t.n,strT t.name,.slice la L lc,.slice aa N ac]=x):=⟨_,rfl⟩;rw [hCS.out,hq.out];clear ht hs h1 h2
 go_enter Tryz.func45,Tryz.ntmps45
 go_upto_region 0 with (fail);refine lbeg (opsOf Tryz.f45 0) ?_;refine lbox 0 25 (.tmp 0) (CS) (q) (some 1) hq ?_;intro w1 bw1 bew1 hsw1;refine lnow 1 (.int .i64 0) (some 2) ?_;refine ldq 2 ?_;have c3:w1.cell? ⟨q,3,none⟩=some (.slice la L lc):=bw1.cell (by rw [← hCS.out];rfl);have BE:=hZ bew1;clear bw1 bew1;go_upto_region 1 with (fail);refine lbeg (opsOf Tryz.f45 1) ?_;refine lnow 0 (.pointer (some ⟨q,3,none⟩)) (some 3) ?_;refine lcl 1 (.slice la L lc) (some 4) 22 3 (q) 3 (c3) Tryz.underlying22 ?_;refine lnow 2 (.int .i64 (L:Int)) (some 5) ?_;refine lnow 3 (.int .i64 (IntKind.i64.wrap (1+(L:Int)))) (some 6) ?_;rw [show IntKind.i64.wrap (1+(L:Int))=((1+L:Nat):Int) from (IntWalk.i64_in _ (by omega)).trans (by omega)];refine lnow 4 (.int .i64 ((1+L:Nat):Int)) (some 2) ?_;refine ldq 5 ?_;go_wp2;go_ret;exact ⟨rfl,BE.out⟩
def postG {α:Type} (B:Nat) (G:List Nat) (n:Nat) (u:World) (I:List α→World→Prop) (Ix:Code→List α→World→Prop) (xs:List α) (W:World):Exit→Act→World→Prop
 |.normal,_,W'=>(KeepsFrom B W W'∧KeepC G W W'∧Below n u W')∧I xs W'
 |.ret,_,W'=>(KeepsFrom B W W'∧KeepC G W W'∧Below n u W')∧Ix .ret xs W'
 |.exit id,_,W'=>(KeepsFrom B W W'∧KeepC G W W'∧Below n u W')∧Ix (.exit id) xs W'
 |_,_,_=>False
set_option maxHeartbeats 1000000 in
theorem range_nodesG {Q : Exit → Act → World → Prop} {a : Act} {w : World} {g : Operand} {p1 p2 : Tmp} {assign body : Code} (G : List Nat) (w0 u : World) (n bt : Nat) (xs : List (Nd G w0)) (hg : a.eval g = .func (.func 72) #[] #[.pointer (some ⟨bt, 0, none⟩)])
    (hseq:SeqStopsK Fence.wide 0 Tryz.prog 72 #[.pointer (some ⟨bt,0,none⟩)] Nd.enc (KeepC G) (fun ys=>ys=xs) (fun p=>p <+: xs) xs.length w) (hk0:KeepC G w0 w) (hu:Below n u w) (hn:n≤w.heap.size)
    (I:List (Nd G w0)→World→Prop) (Ix:Code→List (Nd G w0)→World→Prop) (hI:OwnFrom w.heap.size I) (hIx:∀ c,OwnFrom w.heap.size (Ix c)) (h0:I [] w) (A1:Nd G w0→Nat→Act)
    (hassign:∀ (l:Nat) (x:Nd G w0) (W:World) (K:Act→World→Prop),(∀ W',Blk W' W.heap.size 25 x.cs→Below W.heap.size W W'→K (A1 x W.heap.size) W')→
     assign.wpIn (inR l) 0 Tryz.prog (Exit.then K (fun _ _ _=>False)) { tmps:=(a.tmps.setIfInBounds p1 (.agg x.cs.toArray)).setIfInBounds p2 (.int .i64 x.d),defers:=[] } W)
    (hbody:∀ (l:Nat) (pre:List (Nd G w0)) (x:Nd G w0) (nb:Nat) (W:World),I pre W→w.heap.size≤nb→Blk W nb 25 x.cs→TmAt G W x.t x.cs→Below n u W→n≤W.heap.size→pre.length<xs.length→body.wpIn (inR l) 0 Tryz.prog (postG w.heap.size G n u I Ix (pre++[x]) W) (A1 x nb) W)
    (hdone:∀ (D:Nat) (W:World),I xs W→w.heap.size≤D→W.heap[D]?=some (.deferred (some []))→Below n u W→Q .normal (Act.marked a D) W)
    (hstop:∀ (D:Nat) (c:Code) (pre:List (Nd G w0)) (W:World),pre <+: xs→Ix c pre W→w.heap.size≤D→W.heap[D]?=some (.deferred (some []))→Below n u W→c.wp Tryz.prog Q (Act.marked a D) W) :
    (Code.rangeFunc g #[p1,p2] assign body).wp Tryz.prog Q a w:=by
 refine (wpIn_wide (n:=1)).1 ?_;have hIJ:OwnFrom w.heap.size (fun pre W=>I pre W∧(KeepC G w0 W∧w.heap.size≤W.heap.size)∧Below n u W∧n≤W.heap.size):=fun s A B row h hg2 hr=>
  ⟨hI s A B row h.1 hg2 hr,⟨own_keepC (β:=Unit) w.heap.size G w0 () A B row h.2.1.1 hg2 hr,Nat.le_trans h.2.1.2 hg2.size⟩,own_below (β:=Unit) w.heap.size n u hn () A B row h.2.2 hg2 hr⟩
 have hIxJ:∀ c,OwnFrom w.heap.size (fun pre W=>Ix c pre W∧Below n u W∧n≤W.heap.size):=fun c s A B row h hg2 hr=>
  ⟨hIx c s A B row h.1 hg2 hr,own_below (β:=Unit) w.heap.size n u hn () A B row h.2 hg2 hr⟩
 refine wpIn_rangeFunc_ownH (F:=Fence.wide) (n:=1) (gf:=72) (lb:=#[.pointer (some ⟨bt,0,none⟩)]) (encs:=Nd.enc) (Kp:=KeepC G) (S:=fun ys=>ys=xs) (Sp:=fun p=>p <+: xs) (N:=xs.length) (w0:=w) rfl (Nat.le_refl _) hg trivial
  (enters_of Tryz.func72 (by kernel_rfl) rfl) hseq (fun h k=>h.trans k) (fun W l o o'=>KeepC.put (w:=w) G W l o o') (Below.refl _ _) (fun _=>rfl)
  (fun pre W=>I pre W∧(KeepC G w0 W∧w.heap.size≤W.heap.size)∧Below n u W∧n≤W.heap.size) (fun c pre W=>Ix c pre W∧Below n u W∧n≤W.heap.size) hIJ hIxJ ⟨h0,⟨hk0,Nat.le_refl _⟩,hu,hn⟩
  (fun x a' W=>∃ nb,w.heap.size≤nb∧Blk W nb 25 x.cs∧a'=A1 x nb) (fun x a' s A B row h hg2 hr=>by
   obtain ⟨nb,e1,e2,e3⟩:=h;exact ⟨nb,e1,own_blk_any (β:=Unit) w.heap.size nb 25 x.cs () A B row e2 hg2 hr,e3⟩) ?_ ?_ ?_ ?_
 ·intro l pre x W K ⟨hi,⟨hkc,hwW⟩,hb,hnW⟩ hK
  have ez:(#[p1,p2].zip x.enc).foldl (fun (t:Array Value) (y:Tmp × Value)=>match y with|(p,v)=>t.setIfInBounds p v) a.tmps=(a.tmps.setIfInBounds p1 (.agg x.cs.toArray)).setIfInBounds p2 (.int .i64 x.d):=by
   unfold Nd.enc
   simp
  have ha:=hassign l x W K fun W' hnb hbl=>?_
  ·rw [← ez] at ha
   exact ha
  ·refine hK _ _ (keepsFrom_below hbl) (KeepC.of_below hbl) ⟨hI _ _ _ none hi (grown_of_below hbl) (fun r e=>by cases e),⟨hkc.trans (KeepC.of_below hbl),Nat.le_trans hwW hbl.size⟩,hb.trans (hbl.mono hnW),Nat.le_trans hnW hbl.size⟩ ⟨_,hwW,hnb,rfl⟩
 ·rintro l pre x a' W hl hrec ⟨hi,⟨hkc,hwW⟩,hb,hnW⟩ ⟨nb,e1,e2,rfl⟩ hlen
  refine wpIn_mono (hbody l pre x nb W hi e1 e2 (TmAt.keepC hkc _ _ x.at_) hb hnW hlen) fun e a2 W2 h=>?_;cases e with
  |normal=>exact ⟨h.1.1,h.1.2.1,h.2,⟨hkc.trans h.1.2.1,Nat.le_trans hwW h.1.1.size⟩,h.1.2.2,Nat.le_trans hnW h.1.1.size⟩
  |ret=>exact ⟨h.1.1,h.2,h.1.2.2,Nat.le_trans hnW h.1.1.size⟩
  |exit id=>exact ⟨h.1.1,h.2,h.1.2.2,Nat.le_trans hnW h.1.1.size⟩
  |goto t=>exact h.elim
  |panic c=>exact h.elim
  |outgrown=>exact h.elim
 ·rintro D ys W hD rfl ⟨hi,-,hb,-⟩ hK
  exact hdone D W hi hD hK hb
 ·rintro D c pre W hD hp ⟨hi,hb,-⟩ hK
  exact (wpIn_wide (n:=1)).2 (hstop D c pre W hp hi hD hK hb)
end Go.Proofs.YtmceocgddaaohaaGreatDoor
namespace Go.Proofs.YtmceocgddaaohaaGreatDoor
open Go Go.RowKit
set_option maxRecDepth 100000
def wsum (l:List (Tm × Int)):Nat:=(l.map fun x=>1+x.1.levels.length).sum
theorem wsum_append (a b:List (Tm × Int)):wsum (a++b)=wsum a+wsum b:=by simp [wsum]
mutual
theorem wsum_walk:∀ (t:Tm) (d:Int),wsum (walkT t d)=nodesT t
 |.mk k n s l a,d=>by
  have h:=wsum_walks a k d a.length 0;rw [walkT,nodesT,← h]
  simp [wsum,Tm.levels]
theorem wsum_walks:∀ (ts:List Tm) (k d:Int) (N i:Nat),wsum (walkTs k d N i ts)=nodesTs ts
 |[],k,d,N,i=>by simp [walkTs,nodesTs,wsum]
 |t::ts,k,d,N,i=>by rw [walkTs,nodesTs,wsum_append,wsum_walk t,wsum_walks ts]
end
def wN {G:List Nat} {w:World} (l:List (Nd G w)):Nat:=wsum (l.map Nd.pr)
theorem wN_snoc {G:List Nat} {w:World} (l:List (Nd G w)) (x:Nd G w):wN (l++[x])=wN l+(1+x.t.levels.length):=by simp [wN,wsum,Nd.pr]
theorem wN_pre {G:List Nat} {w:World} {p l:List (Nd G w)} (h:p <+: l):wN p≤wN l:=by
 obtain ⟨z,rfl⟩:=h
 simp [wN,wsum_append]
theorem level_bound {t:Tm} (h:SmT t):t.levels.length*40≤140737488351232:=h.open.2.1
abbrev IntAt (w:World) (b:Nat) (z:Int):Prop:=Blk w b 3 [.int .i64 z]
theorem results_bool {fn:Func} {p:Tmp} (h:fn.results=#[.cell p 4]) (tmps:Array Value) (w:World) (g:Nat) (z:Bool) (hp:tmps.getD p undef=.pointer (some ⟨g,0,none⟩)) (hc:Blk w g 4 [.bool z]):(results fn tmps).run Tryz.prog w=.ok (.bool z) w:=
 results_cell1 h tmps w g _ hp (hc.cell rfl) _ Tryz.underlying4 rfl
section
variable {P:Program} {ops:Array Oper} {Q:Exit→Act→World→Prop} {S:World→Prop} {fuel:Nat} {listed:Array Bool} {a:Act} {w:World}
theorem reg_put1 (i : Nat) (ty : TypeId) (x y : Operand) (b : Nat) (t : TypeId) (u v : Value) (hi : (ops[i]?.isSome && (Region.ready .any ops listed == [i]) && Region.wanted (opAt ops i) (yielded ops a.tmps)) = true) (hd : (opAt ops i).dst = none)
    (ho:(opAt ops i).op=.store ty x y) (hx:a.eval x=.pointer (some ⟨b,0,none⟩)) (hy:a.eval y=v) (hb:Blk w b t [u]) (hz:(P.info? ty).map (·.size)=some 1) (hv:v.cells=#[v]) (h1:v.oneCell'=true)
    (h:∀ w',Blk w' b t [v]→Upd b w w'→S w'∧wpAnyH P .any ops Q S fuel (listed.setIfInBounds i true) (a.put none undef) w'):wpAnyH P .any ops Q S (fuel+1) listed a w:=by
 obtain ⟨hS,hk⟩:=h (w.setCell ⟨b,0,none⟩ v) (by simpa using hb.set 0 v) ((Upd.refl b w).setCell 0 v);exact reg_store i _ hi hd (exec_store_cell ty x y ho b 0 v hx hy t [u] hb (by simp) hz hv h1) hS hk
end
end Go.Proofs.YtmceocgddaaohaaGreatDoor
