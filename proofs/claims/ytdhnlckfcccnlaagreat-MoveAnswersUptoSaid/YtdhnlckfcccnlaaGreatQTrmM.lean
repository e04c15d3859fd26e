import Derived.Test.YtdhnlckfcccnlaaGreatQGenT
import Derived.RangeFuncNested
import Derived.RangeFuncLeaves
import Derived.OrdersIn
import Derived.Shelf.Abstract
import Derived.Recover
import Derived.Test.YtdhnlckfcccnlaaGreatRows
import Derived.ProofKit
import Derived.OpenShut
import Derived.ChangeOld
import Derived.SizedLaws
import Derived.Deep.Matrix
import Derived.Deep.Slices
import Derived.Deep.DeepHandedRow
namespace Go.Proofs.YtdhnlckfcccnlaaGreat
open Go Go.RowKit
set_option maxRecDepth 100000
def inR (l:Nat):Fence:=Fence.wide.inRound l
theorem inR_round (l:Nat):(inR l).round=some l:=rfl
def noDefer (ops:Array Oper):Bool:=ops.all fun o=>match o.op with|.defer _=>false|_=>true
theorem noDefer_at {ops:Array Oper} (h:noDefer ops=true) {i:Nat} {o:Oper} (ho:ops[i]?=some o):∀ c,o.op≠.defer c:=by
 intro c hc;obtain ⟨hlt,rfl⟩:=Array.getElem?_eq_some_iff.1 ho;have:=(Array.all_eq_true.1 h) i hlt;rw [hc] at this;cases this
theorem rows_in {n l:Nat} {P:Program} {row:String} {args:Array Value} {w:World} {R:Value→World→Prop} (h:Rows P row args w R):RowsIn (inR l) n P row args w R:=fun c cs _=>by
 obtain ⟨v,w',hr,hs⟩:=h c cs;exact ⟨v,w',hr,(stepsIn_wide (P:=P)).2 hs⟩
section
variable {P:Program} {ops:Array Oper} {Q:Exit→Act→World→Prop} {n l:Nat}
theorem oper_in {o:Oper} (hnd:∀ c,o.op≠.defer c) {a:Act} {w:World} {K K':Act→World→Prop} (hK:∀ a w,K a w→K' a w) (h:o.wp P a w K Q):o.wpIn (inR l) n P a w K' Q:=by
 unfold Oper.wp at h;refine ⟨fun _ _=>trivial,?_⟩
 rw [inR_round,Oper.semAt_eq _ _ _ hnd];generalize (execOp a.eval o).run P w=r at *;cases r with
 |ok x w'=>
  cases x<;>simp only [Oper.upon] at h<;>simp only [Oper.uponIn]
  case value v=>exact hK _ _ h
  case skip=>exact hK _ _ h
  case defer d=>exact hK _ _ h
  case enter f args=>
   refine ⟨fun hh=>(by cases hh),CallsIn.mono (CallsIn.inRound l (callsIn_wide.2 h)) fun e w'' he=>?_⟩
   cases e<;>first|exact hK _ _ he|exact he
  case row row args=>exact ⟨fun hh=>(by cases hh),RowsIn.mono (rows_in h) fun v w'' he=>hK _ _ he⟩
 |halt x w'=>cases x<;>simp only [Oper.upon] at h ⊢<;>exact h
theorem wpOp_in (hnd:noDefer ops=true) (hl:¬ LetsOut Q) {i:Nat} {a:Act} {w:World} {K K':Act→World→Prop} (hK:∀ a w,K a w→K' a w) (h:wpOp P ops Q i K a w):wpOpIn (inR l) n P ops Q i K' a w:=by
 unfold wpOp at h;unfold wpOpIn;cases ho:ops[i]? with
 |none=>rw [ho] at h;exact hK _ _ h
 |some o=>
  rw [ho] at h;dsimp only at h ⊢;by_cases hw:Region.wanted o (yielded ops a.tmps)=true
  ·rw [if_pos hw] at h ⊢
   rcases h with h|h
   ·exact oper_in (noDefer_at hnd ho) hK h
   ·exact absurd h.2 hl
  ·rw [if_neg hw] at h ⊢
   exact ⟨fun _ _=>trivial,hK _ _ h⟩
theorem wpOps_in (hnd:noDefer ops=true) (hl:¬ LetsOut Q):∀ (L:List Nat) (a:Act) (w:World),wpOps P ops Q L a w→wpOpsIn (inR l) n P ops Q L a w
 |[],_,_,h=>h
 |i::L,a,w,h=>by
  rw [wpOps_cons] at h;rw [wpOpsIn_cons];exact wpOp_in hnd hl (fun a w h=>wpOps_in hnd hl L a w h) h
theorem wpAny_in {md:Region.Mode} (hnd:noDefer ops=true) (hl:¬ LetsOut Q):∀ (fuel:Nat) (listed:Array Bool) (a:Act) (w:World),wpAny P md ops Q fuel listed a w→wpAnyIn (inR l) n P md ops Q fuel listed a w
 |0,_,_,_,h=>h
 |fuel+1,_,_,_,h=>⟨h.1,fun i hi=>wpOp_in hnd hl (fun a w h=>wpAny_in hnd hl fuel _ a w h) (h.2 i hi)⟩
theorem rin_lin {id:Nat} {ops0:Array Oper} {a:Act} {w:World} (ops:Array Oper) (he:ops0=ops) (hnd:noDefer ops=true) (hl:¬ LetsOut Q) (h:wpFrom P ops Q 0 a w):(Code.region id ops0 false).wpIn (inR l) n P Q a w:=by
 subst he;refine wpIn_region (wpOps_in hnd hl _ a w ?_);have h1:=wpOps_eq_wpList (P:=P) (ops:=ops0) (Q:=Q) ops0.toList 0 (fun j=>by simp)
 rw [List.range_eq_range',← Array.length_toList,h1];have:=h.out
 rwa [List.drop_zero] at this
theorem rin_draw {id : Nat} {ops0 : Array Oper} {a : Act} {w : World} (ops : Array Oper) (S : World → Prop) (he : ops0 = ops) (hnd : noDefer ops = true) (hm : P.follows .mixedOrders = true) (k : Nat) (hk : ops.size = k)
    (h:∀ Q':Exit→Act→World→Prop,(∀ c a w d v,Q' (.panic c) (a.put d v) w→Q' (.panic c) a w)→(∀ a w,Q .normal a w→Q' .normal a w)→wpAnyH P .any ops Q' S k (Array.replicate k false) a w.drew):(Code.region id ops0 true).wpIn (inR l) n P Q a w:=by
 subst he;subst hk;refine wpIn_mono (Q:=fun e a w=>match e with|.normal=>Q .normal a w|_=>False) (wpIn_region_any hm (wpAny_in hnd (fun ⟨_,_,h⟩=>h) _ _ _ _ (wpAny_of_held _ _ _ _ (h _ (fun _ _ _ _ _ h=>h) (fun _ _ h=>h))))) (fun e a w he=>?_)
 cases e<;>first|exact he|exact False.elim he
end
structure finFrom (P:Program) (ops:Array Oper) (Q:Exit→Act→World→Prop) (i:Nat) (a:Act) (w:World):Prop where
 out:wpOpsIn Fence.wide 0 P ops Q (List.range' i (ops.size-i)) a w
section
variable {P:Program} {ops:Array Oper} {Q:Exit→Act→World→Prop} {a:Act} {w:World}
theorem fin_begin {id:Nat} {ops0:Array Oper} (ops:Array Oper) (he:ops0=ops) (h:finFrom P ops Q 0 a w):(Code.region id ops0 false).wp P Q a w:=by
 subst he;refine (wpIn_wide (n:=0)).1 (wpIn_region ?_);have:=h.out
 rwa [Nat.sub_zero,← List.range_eq_range'] at this
theorem range_at {i:Nat} (h:ops[i]?.isSome=true):List.range' i (ops.size-i)=i::List.range' (i+1) (ops.size-(i+1)):=by
 obtain ⟨o,ho⟩:=Option.isSome_iff_exists.1 h;obtain ⟨hlt,-⟩:=Array.getElem?_eq_some_iff.1 ho;rw [show ops.size-i=(ops.size-(i+1))+1 by omega,List.range'_succ]
theorem fin_now (i : Nat) (v : Value) (d : Option Tmp) (hi : (ops[i]?.isSome && Region.wanted (opAt ops i) (yielded ops a.tmps)) = true) (hd : (opAt ops i).dst = d)
    (hrun:(execOp a.eval (opAt ops i)).run P w=.ok (.value v) w) (h:finFrom P ops Q (i+1) (a.put d v) w):finFrom P ops Q i a w:=by
 simp only [Bool.and_eq_true] at hi;obtain ⟨h1,h2⟩:=hi;subst hd;refine ⟨?_⟩;rw [range_at h1,wpOpsIn_cons];unfold wpOpIn;rw [get_opAt h1];dsimp only;rw [if_pos h2];refine ⟨fun _ _=>trivial,?_⟩
 rw [show Fence.wide.round=none from rfl,Oper.semAt_none,hrun,Oper.uponIn_value];exact h.out
theorem fin_yield (i m lp : Nat) (args : Array Value) (d : Option Tmp) (R : Ending → World → Prop) (hi : (ops[i]?.isSome && Region.wanted (opAt ops i) (yielded ops a.tmps)) = true) (hd : (opAt ops i).dst = d)
    (hrun:∀ fn tmps assign body,(Instr.yield lp args).run P w=.ok (.round lp fn tmps assign body) w→(execOp a.eval (opAt ops i)).run P w=.ok (.round lp fn tmps assign body) w)
    (hY:YieldAt Fence.wide m P lp args w R) (h:∀ e w',R e w'→∃ v,e=.returned v∧finFrom P ops Q (i+1) (a.put d v) w'):finFrom P ops Q i a w:=by
 simp only [Bool.and_eq_true] at hi;obtain ⟨h1,h2⟩:=hi;subst hd;obtain ⟨fn,tmps,assign,body,hy,hR⟩:=hY;refine ⟨?_⟩;rw [range_at h1,wpOpsIn_cons];unfold wpOpIn;rw [get_opAt h1];dsimp only;rw [if_pos h2];refine ⟨fun _ _=>trivial,?_⟩
 rw [show Fence.wide.round=none from rfl,Oper.semAt_none,hrun _ _ _ _ hy,Oper.uponIn_round];refine ⟨fun hh=>(by cases hh),⟨trivial,fun c cs _=>?_⟩⟩
 obtain ⟨e,w',hr,hc⟩:=hR.2 c cs (room_wide _);obtain ⟨v,rfl,hk⟩:=h e w' hr;exact ⟨.returned v,w',hk.out,hc⟩
theorem fin_done (i:Nat) (hi:ops.size=i) (h:Q .normal a w):finFrom P ops Q i a w:=by
 refine ⟨?_⟩;rw [hi,Nat.sub_self];exact h
end
theorem calls_of_marks {P : Program} {f : FuncId} {fn : Func} {c : Code} {args : Array Value} {w : World} {R : Ending → World → Prop} (hf : P.funcs[f]? = some fn) (hb : fn.body = some c)
    (h:c.wp P (bodyPostM Fence.wide 0 P fn R) { tmps:=args++Array.replicate (fn.ntmps-args.size) undef,defers:=[] } w):Calls P f args w R:=
 callsIn_wide.1 (callsIn_of_wp_marks hf hb trivial ((wpIn_wide (n:=0)).2 h) rfl)
theorem ret_plain {P:Program} {fn:Func} {R:Ending→World→Prop} {a:Act} {w:World} {v:Value} (hr:(results fn a.tmps).run P w=.ok v w) (hd:a.defers=[]) (hR:R (.returned v) w):bodyPostM Fence.wide 0 P fn R .ret a w:=by
 show LeavesInM Fence.wide 0 P fn a.tmps R a.defers .returning w;rw [hd];exact ⟨_,hr,hR⟩
theorem ret_marks {P : Program} {fn : Func} {R : Ending → World → Prop} {a : Act} {w : World} {v : Value} {D : Nat} (hd : a.defers = [{ target := .collected D, args := #[] }]) (hK : w.heap[D]? = some (.deferred (some [])))
    (hr:(results fn a.tmps).run P (w.putObj D (.deferred none))=.ok v (w.putObj D (.deferred none))) (hR:R (.returned v) (w.putObj D (.deferred none))):bodyPostM Fence.wide 0 P fn R .ret a w:=by
 show LeavesInM Fence.wide 0 P fn a.tmps R a.defers .returning w;rw [hd];exact ⟨by simp,.inl ⟨_,_,rfl,run_takeDeferred hK,⟨_,hr,hR⟩⟩⟩
theorem below_put {n:Nat} {w w':World} {D:Nat} {o:Obj} (h:Below n w w') (hD:n≤D) (hlt:D<w'.heap.size):Below n w (w'.putObj D o):=
 h.grown (grownBy_putObj' w' D o) (by omega) (fun k e=>by cases e;omega)
theorem blk_put {w:World} {b D:Nat} {t:TypeId} {cs:List Value} {o:Obj} (h:Blk w b t cs) (hne:D≠b):Blk (w.putObj D o) b t cs:=by
 unfold Blk at h ⊢;rw [World.putObj_heap_other (Ne.symm hne)];exact h
theorem keepsFrom_below {B:Nat} {W W':World} (h:Below W.heap.size W W'):KeepsFrom B W W':=
 ⟨h.size,fun k _ _ ho _=>(h.block k (Array.getElem?_eq_some_iff.1 ho).1).trans ho⟩
structure Keeps (G:List Nat) (W W':World):Prop where
 os:W'.os=W.os
 tape:W'.tape=W.tape
 output:W'.output=W.output
 size:W.heap.size≤W'.heap.size
 same:∀ k,k<W.heap.size→k∉G→W'.heap[k]?=W.heap[k]?
theorem Keeps.refl (G:List Nat) (W:World):Keeps G W W:=⟨rfl,rfl,rfl,Nat.le_refl _,fun _ _ _=>rfl⟩
theorem Keeps.trans {G:List Nat} {A B C:World} (h:Keeps G A B) (k:Keeps G B C):Keeps G A C:=⟨k.os.trans h.os,k.tape.trans h.tape,k.output.trans h.output,Nat.le_trans h.size k.size,fun i hi hg=>(k.same i (Nat.lt_of_lt_of_le hi h.size) hg).trans (h.same i hi hg)⟩
theorem Keeps.below {G:List Nat} {A B C:World} (h:Keeps G A B) (k:Below A.heap.size B C):Keeps G A C:=⟨k.os.trans h.os,k.tape.trans h.tape,k.output.trans h.output,Nat.le_trans h.size k.size,fun i hi hg=>(k.block i hi).trans (h.same i hi hg)⟩
theorem Keeps.of_below {G:List Nat} {A B:World} (k:Below A.heap.size A B):Keeps G A B:=(Keeps.refl G A).below k
theorem Keeps.drew (G:List Nat) (A:World):Keeps G A A.drew:=⟨rfl,rfl,rfl,Nat.le_refl _,fun _ _ _=>rfl⟩
theorem Keeps.upd {G:List Nat} {A B C:World} {b:Nat} (h:Keeps G A B) (k:Upd b B C) (hb:b∈G∨A.heap.size≤b):Keeps G A C:=
 ⟨k.os.trans h.os,k.tape.trans h.tape,k.output.trans h.output,Nat.le_trans h.size k.size,fun i hi hg=>(k.block i (Nat.lt_of_lt_of_le hi h.size) (fun e=>by
  subst e;rcases hb with hb|hb
  ·exact hg hb
  ·omega)).trans (h.same i hi hg)⟩
theorem Keeps.from {G:List Nat} {B:Nat} {W W':World} (h:Keeps G W W') (hG:∀ g∈G,g<B):KeepsFrom B W W':=
 ⟨h.size,fun k o hk ho _=>(h.same k (Array.getElem?_eq_some_iff.1 ho).1 (fun hg=>by have:=hG k hg;omega)).trans ho⟩
theorem Keeps.lower {G:List Nat} {n:Nat} {w W W':World} (hw:Below n w W) (h:Keeps G W W') (hG:∀ g∈G,n≤g) (hn:n≤W.heap.size):Below n w W':=
 ⟨h.os.trans hw.os,h.tape.trans hw.tape,h.output.trans hw.output,Nat.le_trans hw.size h.size,fun k hk=>(h.same k (by omega) (fun hg=>by have:=hG k hg;omega)).trans (hw.block k hk)⟩
theorem own_below {β:Type} (B n:Nat) (w:World) (hn:n≤B):OwnFrom (β:=β) B (fun _ W=>Below n w W∧n≤W.heap.size):=fun s W W' row h hg hr=>
 ⟨h.1.grown hg h.2 (fun k e=>by have:=(hr k e).1;omega),Nat.le_trans h.2 hg.size⟩
theorem reg_lc {P : Program} {ops : Array Oper} {Q : Exit → Act → World → Prop} {S : World → Prop} {fuel : Nat} {listed : Array Bool} {a : Act} {w : World} (i j : Nat) (vi : Value) (di dj : Tmp) (f : FuncId) (args : Array Value) (R : Ending → World → Prop) (hS : S w) (hSn : ∀ w1, Below w.heap.size w w1 → S w1)
    (hst:(ops[i]?.isSome&&ops[j]?.isSome&&(opAt ops i).guard.isNone&&(opAt ops j).guard.isNone&&(Region.ready .any ops listed==[i,j]||Region.ready .any ops listed==[j,i])&&(Region.ready .any ops (listed.setIfInBounds i true)==[j])&&(Region.ready .any ops (listed.setIfInBounds j true)==[i]))=true)
    (hdi:(opAt ops i).dst=some di) (hdj:(opAt ops j).dst=some dj) (nij:di≠dj) (eij:i≠j)
    (hi0:(execOp a.eval (opAt ops i)).run P w=.ok (.value vi) w) (hi1:∀ vj w1,Below w.heap.size w w1→(execOp (a.put (some dj) vj).eval (opAt ops i)).run P w1=.ok (.value vi) w1)
    (hj0:(execOp a.eval (opAt ops j)).run P w=.ok (.enter f args) w) (hj1:(execOp (a.put (some di) vi).eval (opAt ops j)).run P w=.ok (.enter f args) w) (hc:Calls P f args w R)
    (h:∀ e w5,R e w5→Below w.heap.size w w5∧∃ vj,e=.returned vj∧wpAnyH P .any ops Q S fuel ((listed.setIfInBounds i true).setIfInBounds j true) ((a.put (some di) vi).put (some dj) vj) w5):wpAnyH P .any ops Q S (fuel+2) listed a w:=by
 simp only [Bool.and_eq_true,Bool.or_eq_true,beq_iff_eq] at hst;obtain ⟨⟨⟨⟨⟨⟨g1,g2⟩,n1⟩,n2⟩,r0⟩,ri⟩,rj⟩:=hst;have wi:∀ y,Region.wanted (opAt ops i) y=true:=fun y=>by simp [Region.wanted,Option.isNone_iff_eq_none.1 n1]
 have wj:∀ y,Region.wanted (opAt ops j) y=true:=fun y=>by simp [Region.wanted,Option.isNone_iff_eq_none.1 n2]
 have cij:∀ (b:Act) (v u:Value),(b.put (some dj) u).put (some di) v=(b.put (some di) v).put (some dj) u:=fun b v u=>Act.put_comm b u v (fun d h1 h2=>nij (by cases h1;cases h2;rfl))
 have p1:wpOp P ops Q i (fun a' w'=>S w'∧wpAnyH P .any ops Q S (fuel+1) (listed.setIfInBounds i true) a' w') a w:=by
  refine wpOp_value vi (get_opAt g1) (wi _) hi0 ⟨hS,wpAnyH_one ri ?_⟩;rw [hdi];refine wpOp_callE f args R (get_opAt g2) (wj _) hj1 hc (fun e w5 hR=>?_)
  obtain ⟨hb,vj,rfl,h3⟩:=h e w5 hR;refine ⟨vj,rfl,hSn _ hb,?_⟩;rw [hdj];exact h3
 have p2:wpOp P ops Q j (fun a' w'=>S w'∧wpAnyH P .any ops Q S (fuel+1) (listed.setIfInBounds j true) a' w') a w:=by
  refine wpOp_callE f args R (get_opAt g2) (wj _) hj0 hc (fun e w5 hR=>?_)
  obtain ⟨hb5,vj,rfl,h3⟩:=h e w5 hR;refine ⟨vj,rfl,hSn _ hb5,wpAnyH_one rj ?_⟩;rw [hdj];refine wpOp_value vi (get_opAt g1) (wi _) (hi1 vj w5 hb5) ⟨hSn _ hb5,?_⟩;rw [hdi,cij,Array.setIfInBounds_comm _ _ (Ne.symm eij)];exact h3
 rcases r0 with r0|r0
 ·exact wpAnyH_two r0 p1 p2
 ·exact wpAnyH_two r0 p2 p1
theorem then_normal {K:Act→World→Prop} {Q:Exit→Act→World→Prop} {a:Act} {w:World} (h:K a w):Exit.then K Q .normal a w:=h
theorem own_blk_any {β:Type} (B b:Nat) (t:TypeId) (cs:List Value):OwnFrom (β:=β) B (fun _ W=>Blk W b t cs):=fun s W W' row h hg hr=>by
 have h':Blk W b t cs:=h;have:=hg.block b h'.lt (fun e=>by
  obtain ⟨-,o,ho,hc⟩:=hr b e.symm;unfold Blk at h';rw [h'] at ho;obtain rfl:=Option.some.inj ho;cases hc)
 show Blk W' b t cs;unfold Blk at h' ⊢;rw [this,h']
theorem results_cell1 {P : Program} {fn : Func} {p : Tmp} {ty : TypeId} (h : fn.results = #[.cell p ty]) (tmps : Array Value) (w : World) (g : Nat) (v : Value) (hp : tmps.getD p undef = .pointer (some ⟨g, 0, none⟩)) (hc : w.cell? ⟨g, 0, none⟩ = some v)
    (d:TypeDesc) (hd:P.underlying ty=some d) (hr:d.isRow=false):(results fn tmps).run P w=.ok v w:=by
 have hagg:(isAgg ty).run P w=.ok false w:=by
  unfold isAgg;rw [Sem.run_bind,run_underlying hd w];cases d<;>simp_all
 have hl:(loadVar ty ⟨g,0,none⟩).run P w=.ok v w:=by
  simp [loadVar,Sem.run_bind,hagg,hc]
 have hp':tmps[p]?.getD undef=.pointer (some ⟨g,0,none⟩):=by simpa using hp
 simp [results,h,hp',asAddr,hl]
end Go.Proofs.YtdhnlckfcccnlaaGreat
namespace Go.Proofs.YtdhnlckfcccnlaaGreat
open Go Go.RowKit
structure Bel (G:List Nat) (B:Nat) (w w':World):Prop where
 os:w'.os=w.os
 tape:w'.tape=w.tape
 output:w'.output=w.output
 size:w.heap.size≤w'.heap.size
 block:∀ k,k<B→k∉G→w'.heap[k]?=w.heap[k]?
theorem Bel.refl (G:List Nat) (B:Nat) (w:World):Bel G B w w:=⟨rfl,rfl,rfl,Nat.le_refl _,fun _ _ _=>rfl⟩
theorem Bel.trans {G:List Nat} {B:Nat} {a b c:World} (h:Bel G B a b) (k:Bel G B b c):Bel G B a c:=
 ⟨k.os.trans h.os,k.tape.trans h.tape,k.output.trans h.output,Nat.le_trans h.size k.size,fun i hi hg=>(k.block i hi hg).trans (h.block i hi hg)⟩
theorem Bel.mono {G:List Nat} {B B':Nat} {a b:World} (h:Bel G B a b) (hB:B'≤B):Bel G B' a b:=⟨h.os,h.tape,h.output,h.size,fun i hi hg=>h.block i (Nat.lt_of_lt_of_le hi hB) hg⟩
theorem Bel.more {G G':List Nat} {B:Nat} {a b:World} (h:Bel G B a b) (hG:∀ k∈G,k∈G'∨B≤k):Bel G' B a b:=⟨h.os,h.tape,h.output,h.size,fun i hi hg=>h.block i hi (fun hc=>(hG i hc).elim hg (fun h=>absurd hi (Nat.not_lt.2 h)))⟩
theorem Bel.of {G:List Nat} {B:Nat} {a b:World} (h:Below B a b):Bel G B a b:=⟨h.os,h.tape,h.output,h.size,fun i hi _=>h.block i hi⟩
theorem Bel.below {G:List Nat} {B:Nat} {a b:World} (h:Bel G B a b) (hG:∀ k∈G,B≤k):Below B a b:=⟨h.os,h.tape,h.output,h.size,fun i hi=>h.block i hi (fun hc=>absurd hi (Nat.not_lt.2 (hG i hc)))⟩
theorem Bel.step {F G:List Nat} {B:Nat} {a b:World} (h:Bel G B a b) (hB:a.heap.size≤B) (hF:∀ k∈G,k∈F):Step F a F b:=⟨h.os,h.tape,h.output,h.size,fun k hk hn=>h.block k (Nat.lt_of_lt_of_le hk hB) (fun hc=>hn (hF k hc)),fun _ h=>.inl h⟩
theorem Bel.upd {G:List Nat} {B b:Nat} {u v w:World} (h:Bel G B u v) (k:Upd b v w) (hb:b∈G∨B≤b) (hB:B≤v.heap.size):Bel G B u w:=
 ⟨k.os.trans h.os,k.tape.trans h.tape,k.output.trans h.output,Nat.le_trans h.size k.size,fun i hi hg=>(k.block i (Nat.lt_of_lt_of_le hi hB) (fun e=>hb.elim (fun hc=>hg (e ▸ hc)) (fun hc=>by omega))).trans (h.block i hi hg)⟩
theorem Bel.blk {G:List Nat} {B:Nat} {a b:World} (h:Bel G B a b) {k:Nat} {t:TypeId} {cs:List Value} (hk:Blk a k t cs) (hB:k<B) (hG:k∉G):Blk b k t cs:=by
 unfold Blk;rw [h.block k hB hG];exact hk
section
variable {P:Program} {ops:Array Oper} {Q:Exit→Act→World→Prop} {S:World→Prop} {fuel:Nat} {listed:Array Bool} {a:Act} {w:World}
theorem lin_callP (i : Nat) (f : FuncId) (args : Array Value) (d : Option Tmp) (R : Ending → World → Prop) (hi : (ops[i]?.isSome && Region.wanted (opAt ops i) (yielded ops a.tmps)) = true) (hd : (opAt ops i).dst = d)
    (hrun:(execOp a.eval (opAt ops i)).run P w=.ok (.enter f args) w) (hc:Calls P f args w R)
    (h:∀ e w',R e w'→(∃ v,e=.returned v∧wpFrom P ops Q (i+1) (a.put d v) w')∨(∃ ch,e=.panicked ch∧Q (.panic ch) a w')):wpFrom P ops Q i a w:=by
 simp only [Bool.and_eq_true] at hi;obtain ⟨h1,h2⟩:=hi;subst hd;refine ⟨?_⟩;rw [drop_opAt h1];refine wpList_step fun K hK=>?_;rw [if_pos h2];unfold Oper.wp;rw [hrun];refine hc.mono fun e w' hR=>?_;rcases h e w' hR with ⟨v,rfl,hk⟩|⟨ch,rfl,hk⟩
 ·exact hK _ _ hk.out
 ·exact hk
theorem reg_callP (i : Nat) (f : FuncId) (args : Array Value) (d : Option Tmp) (R : Ending → World → Prop) (hi : (ops[i]?.isSome && (Region.ready .any ops listed == [i]) && Region.wanted (opAt ops i) (yielded ops a.tmps)) = true) (hd : (opAt ops i).dst = d)
    (hrun:(execOp a.eval (opAt ops i)).run P w=.ok (.enter f args) w) (hc:Calls P f args w R)
    (h:∀ e w',R e w'→(∃ v,e=.returned v∧S w'∧wpAnyH P .any ops Q S fuel (listed.setIfInBounds i true) (a.put d v) w')∨(∃ ch,e=.panicked ch∧Q (.panic ch) a w')):wpAnyH P .any ops Q S (fuel+1) listed a w:=by
 simp only [Bool.and_eq_true,beq_iff_eq] at hi;obtain ⟨⟨h1,h2⟩,h3⟩:=hi;subst hd;refine wpAnyH_one h2 ?_;unfold wpOp;simp only [get_opAt h1];rw [if_pos h3];refine Or.inl ?_;unfold Oper.wp;rw [hrun];refine hc.mono fun e w' hR=>?_;rcases h e w' hR with ⟨v,rfl,hk⟩|⟨ch,rfl,hk⟩
 ·exact hk
 ·exact hk
theorem put_defers (a:Act) (d:Option Tmp) (v:Value):(a.put d v).defers=a.defers:=by cases d<;>rfl
theorem region_beginP {id : Nat} {ops0 : Array Oper} (ops : Array Oper) (S : World → Prop) (he : ops0 = ops) (hm : P.follows .mixedOrders = true) (n : Nat) (hn : ops.size = n)
    (h:∀ Q':Exit→Act→World→Prop,(∀ c a w d v,Q' (.panic c) (a.put d v) w→Q' (.panic c) a w)→(∀ a w,Q .normal a w→Q' .normal a w)→(∀ c a w,(∀ a':Act,a'.defers=a.defers→Q (.panic c) a' w)→Q' (.panic c) a w)→wpAnyH P .any ops Q' S n (Array.replicate n false) a w.drew):(Code.region id ops0 true).wp P Q a w:=by
 subst he;subst hn;refine Code.wp_mono (Q:=fun e a w=>match e with|.normal=>Q .normal a w|.panic c=>∀ a':Act,a'.defers=a.defers→Q (.panic c) a' w|_=>False) (fun e a w he=>?_) (wp_region_held hm (h _ (fun c a w d v h a' ha=>h a' (ha.trans (put_defers a d v).symm)) (fun _ _ h=>h) (fun _ _ _ h=>h)))
 cases e<;>first|exact he|exact he _ rfl|exact False.elim he
end
end Go.Proofs.YtdhnlckfcccnlaaGreat
namespace Go.Proofs.YtdhnlckfcccnlaaGreat
open Go.ChangeShapes Go.WideShapes Go.ChangeAt Go.RowKit Go.Deep
set_option maxRecDepth 100000
theorem own:ownKnob Tryz.prog.godebug=none:=by kernel_rfl
theorem laidOut:laidOutB Tryz.prog=true:=by kernel_rfl
theorem weights_in {H:Type} {P:Program} {e:TypeId}:∀ {l:List (DataW H)} {d:DataW H},d∈l→∀ n∈d.weights P e,n∈DataW.weightsAll P e l
 |_::_,d,h,n,hn=>by
  rw [DataW.weightsAll,List.mem_append];rcases List.mem_cons.1 h with rfl|h
  ·exact Or.inl hn
  ·exact Or.inr (weights_in h n hn)
theorem addr_plain {w:World} {a:Addr} {v:Value} (h:w.cell? (a.add 0)=some v):a=⟨a.block,a.off,none⟩:=by
 have:a.spot=none:=World.cell?_spot (by simpa [Addr.add] using h);cases a;simp_all
theorem ints_of_array {H : Type} {enc : TypeId × Value → H} {P : Program} {w : World} {base : Nat} {spare : Nat → Bool} {held : Bool} {fuel : Nat} {t e : TypeId} {n : Nat} {k : IntKind} {cs : List Value} {x : DataW H × List MemPlace}
    (ht:P.underlying t=some (.array n e)) (he:P.underlying e=some (.int k)) (ce:P.cellsOf e=1) (ct:P.cellsOf t=n) (h:DataW.trod enc P w base spare held fuel t cs=some x):∃ zs:List Int,cs=ints k zs∧zs.length=n:=by
 obtain ⟨xs,m,rfl,-,hl,hxl,hi⟩:=DataW.trod_array ht h;rw [ct] at hl;refine ⟨cs.map valOf,?_,by rw [List.length_map,hl]⟩
 apply List.ext_getElem?
 intro i;by_cases hin:i<n
 ·have h1:=hi i hin
  rw [ce,Nat.mul_one,List.getElem?_eq_getElem (by omega)] at h1;obtain ⟨z,hz,_⟩:=DataW.trod_int he h1;have h2:cs[i]?=some (.int k z):=by
   have:((cs.drop i).take 1)[0]?=some (.int k z):=by rw [hz];rfl
   simpa [List.getElem?_take,List.getElem?_drop] using this
  rw [h2]
  simp [ints,h2,valOf]
 ·rw [List.getElem?_eq_none (by omega),List.getElem?_eq_none (by rw [ints_length,List.length_map];omega)]
theorem ints_of_array' {H : Type} {enc : TypeId × Value → H} {P : Program} {w : World} {base : Nat} {spare : Nat → Bool} {held : Bool} {fuel : Nat} {t e : TypeId} {n : Nat} {k : IntKind} {cs : List Value} {x : DataW H × List MemPlace}
    (ht:P.underlying t=some (.array n e)) (he:P.underlying e=some (.int k)) (ce:P.cellsOf e=1) (ct:P.cellsOf t=n) (h:DataW.trod enc P w base spare held fuel t cs=some x):∃ zs:List Int,cs=ints k zs∧zs.length=n∧∀ z∈zs,(Lit.int k z).wf=true:=by
 obtain ⟨zs,rfl,hz⟩:=ints_of_array ht he ce ct h;refine ⟨zs,rfl,hz,fun z hzm=>?_⟩
 obtain ⟨i,hi,rfl⟩:=List.mem_iff_getElem.1 hzm;obtain ⟨xs,m,rfl,-,hl,hxl,hix⟩:=DataW.trod_array ht h;have h1:=hix i (by omega);rw [ce,Nat.mul_one,List.getElem?_eq_getElem (by omega)] at h1;obtain ⟨z,hz1,_,hw⟩:=DataW.trod_int he h1;have h2:((ints k zs).drop i).take 1=[.int k zs[i]]:=by
  apply List.ext_getElem?
  intro j;cases j with
  |zero=>simp [List.getElem?_drop,ints,hi]
  |succ j=>simp [List.getElem?_take]
 rw [h2] at hz1;have:zs[i]=z:=(by simpa using hz1);rw [this];exact hw
end Go.Proofs.YtdhnlckfcccnlaaGreat
namespace Go.Proofs.YtdhnlckfcccnlaaGreat
open Go Go.RowKit
set_option maxRecDepth 100000
structure Lv where
 b:Int
 p:List Int
deriving DecidableEq
def Lv.zs (l:Lv):List Int:=l.b::l.p
def rightL (l:Lv):Bool:=(decide (0≤l.b)&&decide (l.b≤100))&&l.p.all fun x=>decide (-1≤x)&&decide (x≤l.b)
theorem right_b {l:Lv} (h:rightL l=true):0≤l.b∧l.b≤100:=by
 simp only [rightL,Bool.and_eq_true,decide_eq_true_eq] at h;exact h.1
theorem right_p {l:Lv} (h:rightL l=true) {x:Int} (hx:x∈l.p):-1≤x∧x≤l.b:=by
 simp only [rightL,Bool.and_eq_true,List.all_eq_true,decide_eq_true_eq] at h;exact h.2 x hx
theorem right_at {l:Lv} (h:rightL l=true) {i:Nat} (hi:i<l.p.length):-1≤l.p.getD i 0∧l.p.getD i 0≤l.b:=by
 rw [List.getD_eq_getElem?_getD,List.getElem?_eq_getElem hi];exact right_p h (List.getElem_mem hi)
theorem right_mk {l:Lv} (h0:0≤l.b) (h1:l.b≤100) (h:∀ x∈l.p,-1≤x∧x≤l.b):rightL l=true:=by
 simp only [rightL,Bool.and_eq_true,List.all_eq_true,decide_eq_true_eq];exact ⟨⟨h0,h1⟩,h⟩
def numL (n:Int):Lv:=⟨n,[-1,-1,-1,-1]⟩
theorem right_num {n:Int} (h0:0≤n) (h1:n≤100):rightL (numL n)=true:=by
 refine right_mk h0 h1 fun x hx=>?_
 simp [numL] at hx ⊢
 omega
def clampL (v:Int):Int:=min (max v 0) 1048576
def valUp (l:Lv) (vals:List Int):Nat→Int
 |0=>l.b
 |k+1=>if l.p.getD k 0=-1 then valUp l vals k else max (valUp l vals k) (clampL (vals.getD k 0)+l.p.getD k 0)
theorem valUp_ge (l:Lv) (vals:List Int):∀ k,l.b≤valUp l vals k
 |0=>Int.le_refl _
 |k+1=>by
  have h:=valUp_ge l vals k;rw [valUp]
  split
  ·exact h
  ·omega
def max2 (a b:Lv):Lv:=⟨max a.b b.b,List.zipWith max a.p b.p⟩
def maxRow:List Lv→Lv→Lv
 |[],g=>g
 |l::ls,g=>maxRow ls (max2 g l)
def maxL (ls:List Lv):Lv:=if ls.all rightL then maxRow ls (numL 0) else numL (-1)
theorem zip_at {us bs:List Int} (h:us.length=bs.length) (i:Nat) (hi:i<us.length):(List.zipWith max us bs).getD i 0=max (us.getD i 0) (bs.getD i 0):=by
 have hb:i<bs.length:=(by omega);have hz:i<(List.zipWith max us bs).length:=(by rw [List.length_zipWith];omega);rw [List.getD_eq_getElem?_getD,List.getD_eq_getElem?_getD,List.getD_eq_getElem?_getD,List.getElem?_eq_getElem hz,List.getElem?_eq_getElem hi,List.getElem?_eq_getElem hb]
 simp
theorem eq_at {us bs:List Int} (h:us.length=bs.length) (hx:∀ i,i<us.length→us.getD i 0=bs.getD i 0):us=bs:=by
 refine List.ext_getElem h fun i h1 h2=>?_;have:=hx i h1
 simpa [List.getD_eq_getElem?_getD,h1,h2] using this
theorem mem_at {us:List Int} {x:Int} (h:x∈us):∃ i,i<us.length∧us.getD i 0=x:=by
 obtain ⟨i,hi,e⟩:=List.getElem_of_mem h;exact ⟨i,hi,by simp [List.getD_eq_getElem?_getD,hi,e]⟩
theorem Lv.ext2 {a b:Lv} (ha:a.p.length=4) (hb:b.p.length=4) (h1:a.b=b.b) (h2:∀ i,i<4→a.p.getD i 0=b.p.getD i 0):a=b:=by
 obtain ⟨ab,ap⟩:=a;obtain ⟨bb,bp⟩:=b;simp only at ha hb h1 h2;subst h1;rw [eq_at (ha.trans hb.symm) (fun i hi=>h2 i (by omega))]
theorem max2_len {a b:Lv} (ha:a.p.length=4) (hb:b.p.length=4):(max2 a b).p.length=4:=by simp [max2,ha,hb]
theorem max2_at {a b:Lv} (ha:a.p.length=4) (hb:b.p.length=4) {i:Nat} (hi:i<4):(max2 a b).p.getD i 0=max (a.p.getD i 0) (b.p.getD i 0):=zip_at (ha.trans hb.symm) i (by omega)
theorem right_all {l:Lv} (hl:l.p.length=4) (h0:0≤l.b) (h1:l.b≤100) (h:∀ i,i<4→-1≤l.p.getD i 0∧l.p.getD i 0≤l.b):rightL l=true:=by
 refine right_mk h0 h1 fun x hx=>?_;obtain ⟨i,hi,rfl⟩:=mem_at hx;exact h i (by omega)
theorem max2_right {a b:Lv} (ha:a.p.length=4) (hb:b.p.length=4) (h1:rightL a=true) (h2:rightL b=true):rightL (max2 a b)=true:=by
 have k1:=right_b h1;have k2:=right_b h2;refine right_all (max2_len ha hb) (by simp only [max2];omega) (by simp only [max2];omega) fun i hi=>?_;have:=right_at h1 (i:=i) (by omega);have:=right_at h2 (i:=i) (by omega);rw [max2_at ha hb hi];simp only [max2];omega
theorem num_at (n:Int) {i:Nat} (hi:i<4):(numL n).p.getD i 0=-1:=by
 match i,hi with
 |0,_=>rfl
 |1,_=>rfl
 |2,_=>rfl
 |3,_=>rfl
theorem max2_num {a:Lv} (ha:a.p.length=4) (h:rightL a=true):max2 (numL 0) a=a:=by
 have k:=right_b h;refine Lv.ext2 (max2_len rfl ha) ha (by simp only [max2,numL];omega) fun i hi=>?_;have:=right_at h (i:=i) (by omega);rw [max2_at rfl ha hi,num_at 0 hi];omega
theorem maxL_two {a b:Lv} (ha:a.p.length=4) (h1:rightL a=true) (h2:rightL b=true):maxL [a,b]=max2 a b:=by
 simp [maxL,h1,h2,maxRow,max2_num ha h1]
theorem maxL_wrong {ls:List Lv} (h:ls.all rightL=false):maxL ls=numL (-1):=by
 rw [maxL,if_neg (by rw [h];decide)]
def upP (n:Int) (x:Int):Int:=if x=-1 then -1 else x+n
def upRaw (l:Lv) (n:Int):Lv:=⟨l.b+n,l.p.map (upP n)⟩
def upOk (l:Lv) (n:Int):Bool:=(rightL l&&(decide (0≤n)&&decide (n≤100)))&&decide (l.b+n≤100)
def zeroL:Lv:=⟨0,[0,0,0,0]⟩
theorem upRaw_at {l:Lv} {n:Int} (hl:l.p.length=4) {i:Nat} (hi:i<4):(upRaw l n).p.getD i 0=upP n (l.p.getD i 0):=by
 have h:i<l.p.length:=by omega
 simp [upRaw,List.getD_eq_getElem?_getD,h]
theorem upRaw_len {l:Lv} {n:Int} (hl:l.p.length=4):(upRaw l n).p.length=4:=by simp [upRaw,hl]
theorem up_right {l:Lv} {n:Int} (hl:l.p.length=4) (h:rightL l=true) (h0:0≤n) (h1:n≤100):rightL (upRaw l n)=decide (l.b+n≤100):=by
 have k:=right_b h;by_cases e:l.b+n≤100
 ·rw [decide_eq_true e]
  refine right_all (upRaw_len hl) (by simp only [upRaw];omega) (by simp only [upRaw];omega) fun i hi=>?_;have:=right_at h (i:=i) (by omega);rw [upRaw_at hl hi];simp only [upRaw,upP]
  split<;>omega
 ·rw [decide_eq_false e,Bool.eq_false_iff]
  intro hc;have:=(right_b hc).2;simp only [upRaw] at this;omega
def widthUp (l:Lv):Nat→Nat
 |0=>0
 |k+1=>if l.p.getD k 0=-1 then widthUp l k else k+1
def widthL (l:Lv):Nat:=widthUp l 4
theorem widthUp_le (l:Lv):∀ k,widthUp l k≤k
 |0=>Nat.le_refl _
 |k+1=>by
  have:=widthUp_le l k;rw [widthUp]
  split<;>omega
theorem widthUp_no (l:Lv):∀ k i,widthUp l k≤i→i<k→l.p.getD i 0=-1
 |0,i,_,h=>absurd h (by omega)
 |k+1,i,h1,h2=>by
  rw [widthUp] at h1
  split at h1
  ·by_cases e:i=k
   ·subst e;assumption
   ·exact widthUp_no l k i h1 (by omega)
  ·omega
def instUp (l:Lv) (by_:List Lv):Nat→Option Lv
 |0=>some (numL l.b)
 |k+1=>match instUp l by_ k with
  |none=>none
  |some r=>if l.p.getD k 0=-1 then some r else if upOk (by_.getD k zeroL) (l.p.getD k 0) then some (max2 r (upRaw (by_.getD k zeroL) (l.p.getD k 0))) else none
def instL (l:Lv) (by_:List Lv):Option Lv:=
 if (rightL l&&decide (widthL l≤by_.length))&&by_.all rightL then instUp l by_ (widthL l) else none
end Go.Proofs.YtdhnlckfcccnlaaGreat
namespace Go.Proofs.YtdhnlckfcccnlaaGreat
open Go Go.RowKit
set_option maxRecDepth 100000
inductive Tm where
 |mk (kind n:Int) (name:List UInt8) (levels:List Lv) (args:List Tm)
def Tm.kind:Tm→Int|.mk k _ _ _ _=>k
def Tm.n:Tm→Int|.mk _ n _ _ _=>n
def Tm.name:Tm→List UInt8|.mk _ _ s _ _=>s
def Tm.levels:Tm→List Lv|.mk _ _ _ l _=>l
def Tm.args:Tm→List Tm|.mk _ _ _ _ a=>a
theorem Tm.byParts {C:Tm→Prop} (h:∀ k n s l a,(∀ x∈a,C x)→C (.mk k n s l a)):∀ t,C t
 |.mk k n s l a=>h k n s l a fun x _=>Tm.byParts h x
termination_by t=>SizeOf.sizeOf t
decreasing_by
 have:=List.sizeOf_lt_of_mem ‹x∈a›
 simp
 omega
def strT (l:List UInt8):Value:=.string ⟨l.toArray⟩
theorem strT_of (s:ByteArray):Value.string s=strT s.data.toList:=rfl
def LvsOff (F:List Nat) (w:World) (v:Value) (ls:List Lv):Prop:=
 ∃ a cap,v=.slice a ls.length cap∧ls.length≤cap∧ls.length≤9223372036854775807∧(∀ l∈ls,l.p.length=4)∧(0<ls.length→∃ pb po,a=some ⟨pb,po,none⟩∧pb∉F∧pb<w.heap.size∧∀ (i:Nat) (l:Lv),ls[i]?=some l→w.rangeAt pb (po+5*i) (ints .i64 l.zs))
theorem Step.range {F F':List Nat} {w w':World} (hs:Step F w F' w') {pb o:Nat} {cs:List Value} (hb:pb<w.heap.size) (hF:pb∉F) (h:w.rangeAt pb o cs):w'.rangeAt pb o cs:=fun j u hu=>by
 rw [World.cell?_of_block (w:=w) (a:=⟨pb,o+j,none⟩) (hs.block pb hb hF)];exact h j u hu
theorem LvsOff.step {F F':List Nat} {w w':World} {v:Value} {ls:List Lv} (h:LvsOff F w v ls) (hs:Step F w F' w'):LvsOff F' w' v ls:=by
 obtain ⟨a,cap,h1,h2,h3,h4,h5⟩:=h;refine ⟨a,cap,h1,h2,h3,h4,fun hp=>?_⟩
 obtain ⟨pb,po,e,hF,hb,hr⟩:=h5 hp;exact ⟨pb,po,e,hs.off hb hF,Nat.lt_of_lt_of_le hb hs.size,fun i l hi=>hs.range hb hF (hr i l hi)⟩
theorem LvsOff.sub {F G:List Nat} {w:World} {v:Value} {ls:List Lv} (h:LvsOff F w v ls) (hG:∀ k∈G,k∈F∨w.heap.size≤k):LvsOff G w v ls:=by
 obtain ⟨a,cap,h1,h2,h3,h4,h5⟩:=h;refine ⟨a,cap,h1,h2,h3,h4,fun hp=>?_⟩
 obtain ⟨pb,po,e,hF,hb,hr⟩:=h5 hp;exact ⟨pb,po,e,fun hc=>by rcases hG pb hc with h|h;exact hF h;omega,hb,hr⟩
mutual
def TmAt (F:List Nat) (w:World):Tm→List Value→Prop
 |.mk k n s l a,cs=>∃ lv av,cs=[.int .i64 k,.int .i64 n,strT s,lv,av]∧LvsOff F w lv l∧TmsAt F w a av
def TmsAt (F:List Nat) (w:World):List Tm→Value→Prop
 |[],v=>∃ a cap,v=.slice a 0 cap
 |t::ts,v=>∃ cap pb po,v=.slice (some ⟨pb,po,none⟩) (ts.length+1) cap∧ts.length+1≤cap∧pb∉F∧pb<w.heap.size∧TmRow F w (t::ts) pb po
def TmRow (F:List Nat) (w:World):List Tm→Nat→Nat→Prop
 |[],_,_=>True
 |t::ts,pb,po=>(∃ cs,w.rangeAt pb po cs∧TmAt F w t cs)∧TmRow F w ts pb (po+5)
end
theorem LvsOff.nil (F:List Nat) (w:World) (a:Option Addr) (c:Nat):LvsOff F w (.slice a 0 c) []:=⟨a,c,rfl,Nat.zero_le _,by simp,fun l h=>by simp at h,fun h=>by simp at h⟩
mutual
theorem TmAt.step {F F':List Nat} {w w':World} (hs:Step F w F' w'):∀ (t:Tm) (cs:List Value),TmAt F w t cs→TmAt F' w' t cs
 |.mk k n s l a,cs,h=>by
  rw [TmAt] at h ⊢;obtain ⟨lv,av,h1,h2,h3⟩:=h;exact ⟨lv,av,h1,h2.step hs,TmsAt.step hs a av h3⟩
theorem TmsAt.step {F F':List Nat} {w w':World} (hs:Step F w F' w'):∀ (ts:List Tm) (v:Value),TmsAt F w ts v→TmsAt F' w' ts v
 |[],v,h=>by
  rw [TmsAt] at h ⊢;exact h
 |t::ts,v,h=>by
  rw [TmsAt] at h ⊢;obtain ⟨cap,pb,po,h1,h2,h3,h4,h5⟩:=h;exact ⟨cap,pb,po,h1,h2,hs.off h4 h3,Nat.lt_of_lt_of_le h4 hs.size,TmRow.step hs (t::ts) pb po h4 h3 h5⟩
theorem TmRow.step {F F':List Nat} {w w':World} (hs:Step F w F' w'):∀ (ts:List Tm) (pb po:Nat),pb<w.heap.size→pb∉F→TmRow F w ts pb po→TmRow F' w' ts pb po
 |[],_,_,_,_,_=>by rw [TmRow];trivial
 |t::ts,pb,po,hb,hF,h=>by
  rw [TmRow] at h ⊢;obtain ⟨⟨cs,h1,h2⟩,h3⟩:=h;exact ⟨⟨cs,hs.range hb hF h1,TmAt.step hs t cs h2⟩,TmRow.step hs ts pb (po+5) hb hF h3⟩
end
mutual
theorem TmAt.sub {F G:List Nat} {w:World} (hG:∀ k∈G,k∈F∨w.heap.size≤k):∀ (t:Tm) (cs:List Value),TmAt F w t cs→TmAt G w t cs
 |.mk k n s l a,cs,h=>by
  rw [TmAt] at h ⊢;obtain ⟨lv,av,h1,h2,h3⟩:=h;exact ⟨lv,av,h1,h2.sub hG,TmsAt.sub hG a av h3⟩
theorem TmsAt.sub {F G:List Nat} {w:World} (hG:∀ k∈G,k∈F∨w.heap.size≤k):∀ (ts:List Tm) (v:Value),TmsAt F w ts v→TmsAt G w ts v
 |[],v,h=>by
  rw [TmsAt] at h ⊢;exact h
 |t::ts,v,h=>by
  rw [TmsAt] at h ⊢;obtain ⟨cap,pb,po,h1,h2,h3,h4,h5⟩:=h;exact ⟨cap,pb,po,h1,h2,fun hc=>by rcases hG pb hc with h|h;exact h3 h;omega,h4,TmRow.sub hG (t::ts) pb po h5⟩
theorem TmRow.sub {F G:List Nat} {w:World} (hG:∀ k∈G,k∈F∨w.heap.size≤k):∀ (ts:List Tm) (pb po:Nat),TmRow F w ts pb po→TmRow G w ts pb po
 |[],_,_,_=>by rw [TmRow];trivial
 |t::ts,pb,po,h=>by
  rw [TmRow] at h ⊢;obtain ⟨⟨cs,h1,h2⟩,h3⟩:=h;exact ⟨⟨cs,h1,TmAt.sub hG t cs h2⟩,TmRow.sub hG ts pb (po+5) h3⟩
end
theorem TmAt.below {F:List Nat} {w w':World} {t:Tm} {cs:List Value} (h:TmAt F w t cs) (hb:Below w.heap.size w w'):TmAt F w' t cs:=TmAt.step (Step.of_below hb (Nat.le_refl _)) t cs h
theorem TmsAt.below {F:List Nat} {w w':World} {ts:List Tm} {v:Value} (h:TmsAt F w ts v) (hb:Below w.heap.size w w'):TmsAt F w' ts v:=TmsAt.step (Step.of_below hb (Nat.le_refl _)) ts v h
theorem TmAt.open {F:List Nat} {w:World} {t:Tm} {cs:List Value} (h:TmAt F w t cs):∃ lv av,cs=[.int .i64 t.kind,.int .i64 t.n,strT t.name,lv,av]∧LvsOff F w lv t.levels∧TmsAt F w t.args av:=by
 obtain ⟨k,n,s,l,a⟩:=t;rw [TmAt] at h;exact h
theorem TmAt.mk {F:List Nat} {w:World} {t:Tm} {lv av:Value} (h1:LvsOff F w lv t.levels) (h2:TmsAt F w t.args av):TmAt F w t [.int .i64 t.kind,.int .i64 t.n,strT t.name,lv,av]:=by
 obtain ⟨k,n,s,l,a⟩:=t;rw [TmAt];exact ⟨lv,av,rfl,h1,h2⟩
theorem TmAt.len {F:List Nat} {w:World} {t:Tm} {cs:List Value} (h:TmAt F w t cs):cs.length=5:=by
 obtain ⟨lv,av,rfl,-⟩:=h.open
 rfl
theorem TmsAt.slice {F:List Nat} {w:World} {ts:List Tm} {v:Value} (h:TmsAt F w ts v):∃ a cap,v=.slice a ts.length cap:=by
 cases ts with
 |nil=>rw [TmsAt] at h;exact h
 |cons t ts=>
  rw [TmsAt] at h;obtain ⟨cap,pb,po,h1,-⟩:=h;exact ⟨_,_,h1⟩
theorem LvsOff.slice {F:List Nat} {w:World} {ls:List Lv} {v:Value} (h:LvsOff F w v ls):∃ a cap,v=.slice a ls.length cap:=by
 obtain ⟨a,cap,h1,-⟩:=h;exact ⟨a,cap,h1⟩
theorem TmAt.one {F:List Nat} {w:World} {t:Tm} {cs:List Value} (h:TmAt F w t cs):∀ u∈cs,u.oneCell'=true:=by
 obtain ⟨lv,av,rfl,h1,h2⟩:=h.open;obtain ⟨a1,c1,rfl⟩:=h1.slice;obtain ⟨a2,c2,rfl⟩:=h2.slice;intro u hu;simp only [List.mem_cons,List.not_mem_nil,or_false] at hu;rcases hu with rfl|rfl|rfl|rfl|rfl<;>rfl
theorem TmRow.get {F:List Nat} {w:World}:∀ (ts:List Tm) (pb po i:Nat) (t:Tm),TmRow F w ts pb po→ts[i]?=some t→∃ cs,w.rangeAt pb (po+5*i) cs∧TmAt F w t cs
 |[],_,_,_,_,_,h=>by simp at h
 |t0::ts,pb,po,0,t,h,hi=>by
  rw [TmRow] at h;obtain rfl:t0=t:=(by simpa using hi);exact h.1
 |t0::ts,pb,po,i+1,t,h,hi=>by
  rw [TmRow] at h;obtain ⟨cs,h1,h2⟩:=TmRow.get ts pb (po+5) i t h.2 (by simpa using hi);exact ⟨cs,by rw [show po+5*(i+1)=po+5+5*i by omega];exact h1,h2⟩
theorem TmRow.of {F:List Nat} {w:World}:∀ (ts:List Tm) (pb po:Nat),(∀ (i:Nat) (t:Tm),ts[i]?=some t→∃ cs,w.rangeAt pb (po+5*i) cs∧TmAt F w t cs)→TmRow F w ts pb po
 |[],_,_,_=>by rw [TmRow];trivial
 |t::ts,pb,po,h=>by
  rw [TmRow];refine ⟨by simpa using h 0 t rfl,TmRow.of ts pb (po+5) fun i t' hi=>?_⟩
  obtain ⟨cs,h1,h2⟩:=h (i+1) t' (by simpa using hi);exact ⟨cs,by rw [show po+5+5*i=po+5*(i+1) by omega];exact h1,h2⟩
theorem TmsAt.get {F:List Nat} {w:World} {ts:List Tm} {a:Option Addr} {n c:Nat} (h:TmsAt F w ts (.slice a n c)) (hn:ts.length=n) {i:Nat} (hi:i<n):∃ t pb po cs,ts[i]?=some t∧t∈ts∧a=some ⟨pb,po,none⟩∧pb∉F∧pb<w.heap.size∧n≤c∧w.rangeAt pb (po+5*i) cs∧TmAt F w t cs:=by
 cases ts with
 |nil=>simp at hn;omega
 |cons t0 ts=>
  rw [TmsAt] at h;obtain ⟨cap,pb,po,h1,h2,h3,h4,h5⟩:=h;obtain ⟨rfl,e2,rfl⟩:=Value.slice.inj h1;have hg:(t0::ts)[i]?=some ((t0::ts)[i]'(by omega)):=List.getElem?_eq_getElem (by omega);obtain ⟨cs,h6,h7⟩:=TmRow.get (t0::ts) pb po i _ h5 hg;exact ⟨_,pb,po,cs,hg,List.getElem_mem _,rfl,h3,h4,by omega,h6,h7⟩
theorem TmsAt.of {F:List Nat} {w:World} {ts:List Tm} {pb po c:Nat} (hc:ts.length≤c) (hF:pb∉F) (hb:pb<w.heap.size) (h:∀ (i:Nat) (t:Tm),ts[i]?=some t→∃ cs,w.rangeAt pb (po+5*i) cs∧TmAt F w t cs):TmsAt F w ts (.slice (some ⟨pb,po,none⟩) ts.length c):=by
 cases ts with
 |nil=>rw [TmsAt];exact ⟨_,_,rfl⟩
 |cons t ts=>
  rw [TmsAt];exact ⟨c,pb,po,rfl,by simpa using hc,hF,hb,TmRow.of _ _ _ h⟩
theorem TmsAt.nil (F:List Nat) (w:World) (a:Option Addr) (c:Nat):TmsAt F w [] (.slice a 0 c):=by
 rw [TmsAt];exact ⟨a,c,rfl⟩
def TmCells (F:List Nat) (w:World):List Tm→List (List Value)→Prop
 |[],[]=>True
 |t::ts,c::cs=>TmAt F w t c∧TmCells F w ts cs
 |_,_=>False
theorem TmCells.len {F:List Nat} {w:World}:∀ {ts:List Tm} {cs:List (List Value)},TmCells F w ts cs→cs.length=ts.length
 |[],[],_=>rfl
 |_::_,_::_,h=>by simp [TmCells.len h.2]
 |[],_::_,h=>h.elim
 |_::_,[],h=>h.elim
theorem TmCells.at {F:List Nat} {w:World}:∀ {ts:List Tm} {cs:List (List Value)} {i:Nat} {t:Tm},TmCells F w ts cs→ts[i]?=some t→∃ c,TmAt F w t c∧∀ (j:Nat) (u:Value),c[j]?=some u→cs.flatten[5*i+j]?=some u
 |[],[],i,t,_,hi=>by simp at hi
 |t0::ts,c::cs,0,t,h,hi=>by
  obtain rfl:t0=t:=(by simpa using hi);refine ⟨c,h.1,fun j u hu=>?_⟩
  have hj:=(List.getElem?_eq_some_iff.1 hu).1;rw [List.flatten_cons,List.getElem?_append_left (by omega)]
  simpa using hu
 |t0::ts,c::cs,i+1,t,h,hi=>by
  obtain ⟨c',h1,h2⟩:=TmCells.at h.2 (i:=i) (t:=t) (by simpa using hi);refine ⟨c',h1,fun j u hu=>?_⟩
  have:=h.1.len;rw [List.flatten_cons,List.getElem?_append_right (by omega),this,show 5*(i+1)+j-5=5*i+j by omega];exact h2 j u hu
 |[],_::_,_,_,h,_=>h.elim
 |_::_,[],_,_,h,_=>h.elim
theorem TmCells.step {F F':List Nat} {w w':World} (hs:Step F w F' w'):∀ {ts:List Tm} {cs:List (List Value)},TmCells F w ts cs→TmCells F' w' ts cs
 |[],[],_=>trivial
 |t::_,_::_,h=>⟨TmAt.step hs t _ h.1,TmCells.step hs h.2⟩
 |[],_::_,h=>h.elim
 |_::_,[],h=>h.elim
theorem TmCells.sub {F G:List Nat} {w:World} (hG:∀ k∈G,k∈F∨w.heap.size≤k):∀ {ts:List Tm} {cs:List (List Value)},TmCells F w ts cs→TmCells G w ts cs
 |[],[],_=>trivial
 |t::_,_::_,h=>⟨TmAt.sub hG t _ h.1,TmCells.sub hG h.2⟩
 |[],_::_,h=>h.elim
 |_::_,[],h=>h.elim
theorem TmCells.snoc {F:List Nat} {w:World} {t:Tm} {c:List Value} (ht:TmAt F w t c):∀ {ts:List Tm} {cs:List (List Value)},TmCells F w ts cs→TmCells F w (ts++[t]) (cs++[c])
 |[],[],_=>⟨ht,trivial⟩
 |_::_,_::_,h=>⟨h.1,TmCells.snoc ht h.2⟩
 |[],_::_,h=>h.elim
 |_::_,[],h=>h.elim
def OwnT (ty:TypeId) (F:List Nat) (w:World) (base:Nat) (v:Value) (ts:List Tm):Prop:=∃ cs,w.ownsRow base ty 5 v ts.length cs.flatten∧TmCells F w ts cs
theorem OwnT.in {ty:TypeId} {F:List Nat} {w:World} {base:Nat} {v:Value} {ts:List Tm} (h:OwnT ty F w base v ts) (hF:∀ g,v.ownBlock=some g→g∉F):TmsAt F w ts v:=by
 obtain ⟨cs,⟨h0,h1⟩,h2⟩:=h;rcases h1 with ⟨rfl,hn⟩|⟨g,cap,cur,rfl,hg,hb,hc,hm,hs,ht⟩
 ·obtain rfl:=List.eq_nil_of_length_eq_zero hn
  exact TmsAt.nil F w _ _
 ·refine TmsAt.of hc (hF g rfl) (Array.getElem?_eq_some_iff.1 hb).1 fun i t hi=>?_
  obtain ⟨c,h3,h4⟩:=TmCells.at h2 hi;refine ⟨c,fun j u hu=>?_,h3⟩
  have hB:Blk w g ty cur.toList:=(by unfold Blk;simpa using hb);refine hB.cell ?_;have h5:=h4 j u hu;rw [← ht,List.getElem?_take] at h5
  split at h5
  ·rw [Nat.zero_add];exact h5
  ·cases h5
mutual
def SmT:Tm→Prop
 |.mk _ _ s l a=>s.length≤reachBytes∧l.length*40≤reachBytes∧a.length*80≤reachBytes∧SmTs a
def SmTs:List Tm→Prop
 |[]=>True
 |t::ts=>SmT t∧SmTs ts
end
theorem SmTs.of:∀ {ts:List Tm},(∀ t∈ts,SmT t)→SmTs ts
 |[],_=>by rw [SmTs];trivial
 |t::ts,h=>by
  rw [SmTs];exact ⟨h t List.mem_cons_self,SmTs.of fun x hx=>h x (List.mem_cons_of_mem _ hx)⟩
theorem SmTs.mem:∀ {ts:List Tm} {t:Tm},SmTs ts→t∈ts→SmT t
 |t0::ts,t,h,hm=>by
  rw [SmTs] at h;rcases List.mem_cons.1 hm with rfl|hm
  ·exact h.1
  ·exact SmTs.mem h.2 hm
theorem SmT.open {t:Tm} (h:SmT t):t.name.length≤reachBytes∧t.levels.length*40≤reachBytes∧t.args.length*80≤reachBytes∧SmTs t.args:=by
 obtain ⟨k,n,s,l,a⟩:=t;rw [SmT] at h;exact h
end Go.Proofs.YtdhnlckfcccnlaaGreat
namespace Go.Proofs.YtdhnlckfcccnlaaGreat
open Go Go.RowKit
set_option maxRecDepth 100000
def letterB (c:UInt8):Bool:=(decide (97≤c.toNat)&&decide (c.toNat≤122))||(decide (65≤c.toNat)&&decide (c.toNat≤90))
def digitB (c:UInt8):Bool:=decide (48≤c.toNat)&&decide (c.toNat≤57)
def partsB:Bool→List UInt8→Bool
 |b,[]=>!b
 |true,c::cs=>letterB c&&partsB false cs
 |false,c::cs=>if c=46 then partsB true cs else (letterB c||digitB c||decide (c=95))&&partsB false cs
def argsOf (k:Int):Nat:=if k=5∨k=6∨k=7 then 2 else if k=8 then 3 else if k=9 then 1 else 0
def moreT (k:Int) (i:Nat):Int:=if ((k=6∨k=7)∧i=1)∨(k=8∧i=2) then 1 else 0
theorem more_01 (k:Int) (i:Nat):0≤moreT k i∧moreT k i≤1:=by unfold moreT;split<;>omega
mutual
def nodesT:Tm→Nat
 |.mk _ _ _ l a=>1+l.length+nodesTs a
def nodesTs:List Tm→Nat
 |[]=>0
 |t::ts=>nodesT t+nodesTs ts
end
def headT (wordOk:List UInt8→Bool) (p deep k n:Int) (s:List UInt8) (l:List Lv) (a:Nat):Bool:=
 decide (1≤k)&&decide (k≤9)&&decide (deep≤200)&&decide (a=argsOf k)&&(if k=3 then decide (l.length=1) else if k=4 then decide (l.length≤4) else decide (l.length=0))&&
  l.all (fun x=>rightL x&&decide ((widthL x:Int)≤p))&&(if k=4∨k=9 then wordOk s else decide (s=[]))&&decide (0≤n)&&(if k=9 then decide (n≤31) else if k=1 then true else decide (n=0))
mutual
def rightT (wordOk:List UInt8→Bool) (p v deep:Int):Tm→Bool
 |.mk k n s l a=>headT wordOk p deep k n s l a.length&&(decide (k≠1)||decide (n<v))&&rightTs wordOk p v deep k 0 a
def rightTs (wordOk:List UInt8→Bool) (p v deep k:Int) (i:Nat):List Tm→Bool
 |[]=>true
 |t::ts=>rightT wordOk p (v+moreT k i) (deep+moreT k i) t&&rightTs wordOk p v deep k (i+1) ts
end
def appT (f:Tm):List Tm→Tm
 |[]=>f
 |t::ts=>appT (.mk 5 0 [] [] [f,t]) ts
def bindT (k:Int) (body:Tm):List Tm→Tm
 |[]=>body
 |t::ts=>.mk k 0 [] [] [t,bindT k body ts]
def spineT:Tm→Tm × List Tm
 |.mk 5 _ _ _ [f,x]=>((spineT f).1,(spineT f).2++[x])
 |t=>(t,[])
def stripT (k:Int):Tm→List Tm × Tm
 |.mk k' n s l [ty,b]=>if k'=k then (ty::(stripT k b).1,(stripT k b).2) else ([],.mk k' n s l [ty,b])
 |t=>([],t)
theorem app_snoc (f:Tm):∀ (ts:List Tm) (x:Tm),appT f (ts++[x])=.mk 5 0 [] [] [appT f ts,x]
 |[],_=>rfl
 |t::ts,x=>app_snoc (.mk 5 0 [] [] [f,t]) ts x
theorem strip_node (k:Int) (ty b:Tm) (n:Int) (s:List UInt8) (l:List Lv):stripT k (.mk k n s l [ty,b])=(ty::(stripT k b).1,(stripT k b).2):=by rw [stripT,if_pos rfl]
end Go.Proofs.YtdhnlckfcccnlaaGreat
