import Derived.WalkKit
import Derived.Deep.MidRow
import Derived.Deep.WholeRow
import Derived.Deep.OwnRows
import Derived.Laws.CopyOwn
import Derived.Orders
import Derived.OrdersHeld
import Derived.DeepKeys
import Derived.Laws.StructEq
import Derived.Test.YtmceocgddaaohaaGreatDoorProg
import Derived.Lib.Hide
import Derived.Laws.AppendOwnNone
import Derived.OwnWalk
import Derived.Deep.QuietTactic
import Derived.BigQuiet
import Derived.Deep.Cut
import Derived.Deep.AppendLies
namespace Go.Proofs.YtmceocgddaaohaaGreatDoor
open Go Go.RowKit
def Blk (w:World) (b:Nat) (t:TypeId) (cs:List Value):Prop:=w.heap[b]?=some (.cells cs.toArray t (0,0))
theorem Blk.cell {w:World} {b:Nat} {t:TypeId} {cs:List Value} (h:Blk w b t cs) {j:Nat} {v:Value} (hv:cs[j]?=some v):w.cell? ⟨b,j,none⟩=some v:=by
 rw [cell_of_row w b j cs.toArray t (0,0) h];simpa using hv
theorem Blk.free {w:World} {b:Nat} {t:TypeId} {cs:List Value} (h:Blk w b t cs) (j:Nat):w.frozen? ⟨b,j,none⟩=false:=frozen_of_row w b j _ t h
theorem Blk.lt {w:World} {b:Nat} {t:TypeId} {cs:List Value} (h:Blk w b t cs):b<w.heap.size:=by
 unfold Blk at h;exact (Array.getElem?_eq_some_iff.1 h).1
theorem Blk.set {w:World} {b:Nat} {t:TypeId} {cs:List Value} (h:Blk w b t cs) (i:Nat) (v:Value):Blk (w.setCell ⟨b,i,none⟩ v) b t (cs.set i v):=by
 have:=heap_setCell_same w b i cs.toArray t v h;unfold Blk;rw [this]
 simp
theorem Blk.new (w:World) (t:TypeId) (cs:List Value):Blk (w.alloc (.cells cs.toArray t)) w.heap.size t cs:=heap_alloc_new w _
theorem Blk.new2 (w:World) (t:TypeId) (cs:Array Value) (l:List Value) (n:Nat) (hn:n=w.heap.size) (hl:cs=l.toArray):Blk (w.alloc (.cells cs t)) n t l:=by
 subst hn;subst hl;exact Blk.new w t l
theorem Blk.drew {w:World} {b:Nat} {t:TypeId} {cs:List Value} (h:Blk w b t cs):Blk w.drew b t cs:=h
theorem Blk.below {B:Nat} {w w':World} {b:Nat} {t:TypeId} {cs:List Value} (h:Blk w b t cs) (hb:Below B w w') (hB:b<B):Blk w' b t cs:=by
 unfold Blk;rw [hb.block b hB];exact h
theorem Blk.whole {w:World} {b:Nat} {t:TypeId} {cs:List Value} (h:Blk w b t cs):w.rangeAt b 0 cs:=fun j v hv=>by
 rw [Nat.zero_add];exact h.cell hv
theorem Blk.there {w:World} {b:Nat} {t:TypeId} {cs:List Value} (h:Blk w b t cs) (o n:Nat) (hn:o+n≤cs.length):w.there b o n:=fun j hj=>by
 refine ⟨?_,h.free _⟩;rw [h.cell (v:=cs[o+j]'(by omega)) (List.getElem?_eq_getElem (by omega))];rfl
def splice (cs:List Value) (o:Nat) (vs:List Value):List Value:=cs.take o++vs++cs.drop (o+vs.length)
theorem splice_length {cs vs:List Value} {o:Nat} (h:o+vs.length≤cs.length):(splice cs o vs).length=cs.length:=by
 simp [splice];omega
theorem splice_cons (cs:List Value) (o:Nat) (v:Value) (r:List Value) (h:o<cs.length):splice (cs.set o v) (o+1) r=splice cs o (v::r):=by
 unfold splice
 apply List.ext_getElem?
 intro i;have e1:(cs.set o v).drop (o+1+r.length)=cs.drop (o+(r.length+1)):=by
  rw [show o+(r.length+1)=o+1+r.length by omega]
  apply List.ext_getElem?
  intro j
  simp [List.getElem?_drop,List.getElem?_set]
  omega
 have e2:(cs.set o v).take (o+1)=cs.take o++[v]:=by
  apply List.ext_getElem?
  intro j;simp only [List.getElem?_take,List.getElem?_set,List.getElem?_append,List.length_take];by_cases h1:j<o
  ·have:j<min o cs.length:=by omega
   simp [this,h1,show j<o+1 by omega];omega
  ·by_cases h2:j=o
   ·subst h2
    simp [h,Nat.min_eq_left (Nat.le_of_lt h)]
   ·have a1:¬ j<o+1:=by omega
    have a2:¬ j<min o cs.length:=(by omega);rw [if_neg a1,if_neg a2,List.getElem?_eq_none (by simp;omega)]
 rw [e1,e2]
 simp
theorem Blk.setCells:∀ (vs:List Value) {w:World} {b:Nat} {t:TypeId} {cs:List Value} (_:Blk w b t cs) (o:Nat) (_:o+vs.length≤cs.length),Blk (w.setCells b o vs) b t (splice cs o vs)
 |[],w,b,t,cs,h,o,_=>by simpa [splice,World.setCells] using h
 |v::r,w,b,t,cs,h,o,hl=>by
  have:=Blk.setCells r (h.set o v) (o+1) (by simp at hl ⊢;omega);rw [splice_cons cs o v r (by simp at hl;omega)] at this;exact this
theorem Blk.setWhole {w:World} {b:Nat} {t:TypeId} {cs:List Value} (h:Blk w b t cs) (vs:List Value) (hl:vs.length=cs.length):Blk (w.setCells b 0 vs) b t vs:=by
 have:=Blk.setCells vs h 0 (by omega)
 simpa [splice,hl] using this
theorem below_setCells (vs:List Value) {B:Nat} {a w:World} (h:Below B a w) {b:Nat} (o:Nat) (hb:B≤b):Below B a (w.setCells b o vs):=by
 induction vs generalizing w o with
 |nil=>exact h
 |cons v r ih=>exact ih (h.setCell hb v) (o+1)
theorem size_setCells (vs:List Value) (w:World) (b o:Nat):(w.setCells b o vs).heap.size=w.heap.size:=by
 induction vs generalizing w o with
 |nil=>rfl
 |cons v r ih=>rw [World.setCells,ih];simp [World.setCell]
structure Upd (b:Nat) (w w':World):Prop where
 os:w'.os=w.os
 tape:w'.tape=w.tape
 output:w'.output=w.output
 size:w.heap.size≤w'.heap.size
 block:∀ k,k<w.heap.size→k≠b→w'.heap[k]?=w.heap[k]?
theorem Upd.refl (b:Nat) (w:World):Upd b w w:=⟨rfl,rfl,rfl,Nat.le_refl _,fun _ _ _=>rfl⟩
theorem Upd.trans {b:Nat} {u v w:World} (h:Upd b u v) (k:Upd b v w):Upd b u w:=
 ⟨k.os.trans h.os,k.tape.trans h.tape,k.output.trans h.output,Nat.le_trans h.size k.size,fun i hi hb=>(k.block i (Nat.lt_of_lt_of_le hi h.size) hb).trans (h.block i hi hb)⟩
theorem Upd.below {b B:Nat} {a w w':World} (h:Upd b w w') (k:Below B a w) (hb:B≤b) (hB:B≤w.heap.size):Below B a w':=
 k.trans ⟨h.os,h.tape,h.output,h.size,fun i hi=>h.block i (by omega) (by omega)⟩
theorem Upd.blk {b:Nat} {w w':World} (h:Upd b w w') {k:Nat} {t:TypeId} {cs:List Value} (hk:Blk w k t cs) (hb:k≠b):Blk w' k t cs:=by
 unfold Blk;rw [h.block k hk.lt hb];exact hk
theorem Upd.setCell {b:Nat} {u w:World} (h:Upd b u w) (i:Nat) (v:Value):Upd b u (w.setCell ⟨b,i,none⟩ v):=
 h.trans ⟨rfl,rfl,rfl,by simp [World.setCell],fun k _ hk=>Below.heap_setCell w ⟨b,i,none⟩ v k hk⟩
theorem Upd.setCells (vs:List Value) {b:Nat} {u w:World} (h:Upd b u w) (o:Nat):Upd b u (w.setCells b o vs):=by
 induction vs generalizing w o with
 |nil=>exact h
 |cons v r ih=>exact ih (h.setCell o v) (o+1)
def ints (k:IntKind) (l:List Int):List Value:=l.map (Value.int k)
theorem ints_length (k:IntKind) (l:List Int):(ints k l).length=l.length:=by simp [ints]
theorem ints_getD {k:IntKind} {l:List Int} {j:Nat} (h:j<l.length):(ints k l)[j]?=some (.int k (l.getD j 0)):=by simp [ints,h]
theorem ints_oneCell (k:IntKind) (l:List Int):(ints k l).toArray.all (·.oneCell')=true:=
 all_oneCell_toArray fun v hv=>by
  simp only [ints,List.mem_map] at hv;obtain ⟨x,_,rfl⟩:=hv
  rfl
end Go.Proofs.YtmceocgddaaohaaGreatDoor
namespace Go.Proofs.YtmceocgddaaohaaGreatDoor
open Go Go.RowKit Go.Deep
theorem ints_one (k:IntKind) (l:List Int):∀ v∈ints k l,v.oneCell'=true:=fun v hv=>by
 simp only [ints,List.mem_map] at hv;obtain ⟨x,_,rfl⟩:=hv
 rfl
end Go.Proofs.YtmceocgddaaohaaGreatDoor
namespace Go.Proofs.YtmceocgddaaohaaGreatDoor
open Go Go.RowKit
section
variable {P:Program} {ops:Array Oper} {Q:Exit→Act→World→Prop} {md:Region.Mode}
theorem wpOp_value {i : Nat} {K : Act → World → Prop} {a : Act} {w w' : World} {op : Oper} (v : Value) (hi : ops[i]? = some op) (hw : Region.wanted op (yielded ops a.tmps) = true)
    (hrun:(execOp a.eval op).run P w=.ok (.value v) w') (h:K (a.put op.dst v) w'):wpOp P ops Q i K a w:=by
 unfold wpOp;simp only [hi];rw [if_pos hw];refine Or.inl ?_;unfold Oper.wp;rw [hrun];exact h
theorem wpOp_skip {i : Nat} {K : Act → World → Prop} {a : Act} {w w' : World} {op : Oper} (hi : ops[i]? = some op) (hw : Region.wanted op (yielded ops a.tmps) = true)
    (hrun:(execOp a.eval op).run P w=.ok .skip w') (h:K (a.put op.dst undef) w'):wpOp P ops Q i K a w:=by
 unfold wpOp;simp only [hi];rw [if_pos hw];refine Or.inl ?_;unfold Oper.wp;rw [hrun];exact h
theorem wpOp_callE {i : Nat} {K : Act → World → Prop} {a : Act} {w : World} {op : Oper} (f : FuncId) (args : Array Value) (R : Ending → World → Prop) (hi : ops[i]? = some op) (hw : Region.wanted op (yielded ops a.tmps) = true)
    (hrun:(execOp a.eval op).run P w=.ok (.enter f args) w) (hc:Calls P f args w R) (h:∀ e w',R e w'→∃ v,e=.returned v∧K (a.put op.dst v) w'):wpOp P ops Q i K a w:=by
 unfold wpOp;simp only [hi];rw [if_pos hw];refine Or.inl ?_;unfold Oper.wp;rw [hrun];refine hc.mono fun e w' hR=>?_;obtain ⟨v,rfl,hk⟩:=h e w' hR;exact hk
theorem wpAnyH_one {S:World→Prop} {i fuel:Nat} {listed:Array Bool} {a:Act} {w:World} (hr:Region.ready md ops listed=[i]) (h:wpOp P ops Q i (fun a' w'=>S w'∧wpAnyH P md ops Q S fuel (listed.setIfInBounds i true) a' w') a w):wpAnyH P md ops Q S (fuel+1) listed a w:=
 wpAnyH_all hr (by simp) fun j hj=>by
  have:j=i:=(by simpa using hj);subst this;exact h
theorem wpAnyH_two {S : World → Prop} {i j fuel : Nat} {listed : Array Bool} {a : Act} {w : World} (hr : Region.ready md ops listed = [i, j]) (h1 : wpOp P ops Q i (fun a' w' => S w' ∧ wpAnyH P md ops Q S fuel (listed.setIfInBounds i true) a' w') a w)
    (h2:wpOp P ops Q j (fun a' w'=>S w'∧wpAnyH P md ops Q S fuel (listed.setIfInBounds j true) a' w') a w):wpAnyH P md ops Q S (fuel+1) listed a w:=
 wpAnyH_all hr (by simp) fun k hk=>by
  have:k=i∨k=j:=(by simpa using hk);rcases this with rfl|rfl
  ·exact h1
  ·exact h2
theorem wpAnyH_now {S : World → Prop} {i : Nat} {oi : Oper} {fuel : Nat} {listed : Array Bool} {a : Act} {w : World} (v : Value) (hi : ops[i]? = some oi)
    (hs:Region.noSelect ops=true) (hf:Region.free md ops listed i=true) (hr:(Region.ready md ops listed).contains i=true) (hw:Region.wanted oi (yielded ops a.tmps)=true)
    (hQ:∀ c a w,Q (.panic c) (a.put oi.dst v) w→Q (.panic c) a w) (hy:∀ w,(execOp a.eval oi).run P w=.ok (.value v) w) (hS:S w)
    (h:wpAnyH P md ops Q S fuel (listed.setIfInBounds i true) (a.put oi.dst v) w):wpAnyH P md ops Q S (fuel+1) listed a w:=
 wpAnyH_take hi hs hf hr hQ (Or.inl ⟨hw,fun w _=>hy w⟩) hS h
theorem wpAnyH_nowIf {S : World → Prop} {i : Nat} {oi : Oper} {fuel : Nat} {listed : Array Bool} {a : Act} {w : World} (v : Value) (hi : ops[i]? = some oi)
    (hs:Region.noSelect ops=true) (hf:Region.free md ops listed i=true) (hr:(Region.ready md ops listed).contains i=true) (hw:Region.wanted oi (yielded ops a.tmps)=true)
    (hQ:∀ c a w,Q (.panic c) (a.put oi.dst v) w→Q (.panic c) a w) (hy:∀ w,S w→(execOp a.eval oi).run P w=.ok (.value v) w) (hS:S w)
    (h:wpAnyH P md ops Q S fuel (listed.setIfInBounds i true) (a.put oi.dst v) w):wpAnyH P md ops Q S (fuel+1) listed a w:=
 wpAnyH_take hi hs hf hr hQ (Or.inl ⟨hw,hy⟩) hS h
theorem exec_load_mid {a : Act} {w : World} {op : Oper} (ty : TypeId) (x : Operand) (ho : op.op = .load ty x) (b o : Nat) (hx : a.eval x = .pointer (some ⟨b, o, none⟩)) (cs : List Value) (d : TypeDesc) (hc : w.rangeAt b o cs)
    (hu:P.underlying ty=some d) (hd:d.isRow=true) (hi:(P.info? ty).map (·.size)=some cs.length):(execOp a.eval op).run P w=.ok (.value (.agg cs.toArray)) w:=by
 unfold execOp;simp only [ho,hx,Instr.loadAt,Instr.sureAddr,Sem.run_bind,Sem.run_pure,Result.andThen_ok,run_loadVar_mid w b o ty cs d hc hu hd hi]
theorem exec_store_mid {a : Act} {w : World} {op : Oper} (ty : TypeId) (x y : Operand) (ho : op.op = .store ty x y) (b o : Nat) (vs : List Value) (hx : a.eval x = .pointer (some ⟨b, o, none⟩)) (hy : a.eval y = .agg vs.toArray)
    (ht:w.there b o vs.length) (hi:(P.info? ty).map (·.size)=some vs.length) (h1:vs.toArray.all (·.oneCell')=true):(execOp a.eval op).run P w=.ok .skip (w.setCells b o vs):=by
 unfold execOp;simp only [ho,hx,hy,Instr.storeAt,Instr.sureAddr,Sem.run_bind,Sem.run_pure,Result.andThen_ok,run_storeVar_mid w b o ty vs.toArray (by simpa using ht) (by simpa using hi) h1]
end
end Go.Proofs.YtmceocgddaaohaaGreatDoor
namespace Go.Proofs.YtmceocgddaaohaaGreatDoor
open Go Go.RowKit
def codeRegion (id:Nat):Code→Option (Array Oper)
 |.region i ops _=>if i=id then some ops else none
 |.seq a b=>(codeRegion id a).orElse fun _=>codeRegion id b
 |.cond _ a b=>(codeRegion id a).orElse fun _=>codeRegion id b
 |.block _ a=>codeRegion id a
 |.loop a=>codeRegion id a
 |.scope a=>codeRegion id a
 |.rangeFunc _ _ a b=>(codeRegion id a).orElse fun _=>codeRegion id b
 |_=>none
def opsOf (f:Func) (id:Nat):Array Oper:=(f.body.bind (codeRegion id)).getD #[]
def opAt (ops : Array Oper) (i : Nat) : Oper := ops[i]?.getD { dst := none, op := .move (.tmp 0), type := 0, pos := "", after := #[], guard := none }
section
variable {P:Program} {ops:Array Oper} {Q:Exit→Act→World→Prop} {S:World→Prop} {fuel:Nat} {listed:Array Bool} {a:Act} {w:World}
theorem get_opAt {i:Nat} (hi:ops[i]?.isSome=true):ops[i]?=some (opAt ops i):=by
 unfold opAt;cases h:ops[i]? with
 |none=>rw [h] at hi;cases hi
 |some o=>rfl
theorem region_begin {id : Nat} {ops0 : Array Oper} (ops : Array Oper) (S : World → Prop) (he : ops0 = ops) (hm : P.follows .mixedOrders = true) (n : Nat) (hn : ops.size = n)
    (h:∀ Q':Exit→Act→World→Prop,(∀ c a w d v,Q' (.panic c) (a.put d v) w→Q' (.panic c) a w)→(∀ a w,Q .normal a w→Q' .normal a w)→wpAnyH P .any ops Q' S n (Array.replicate n false) a w.drew):(Code.region id ops0 true).wp P Q a w:=by
 subst he;subst hn;refine Code.wp_mono (Q:=fun e a w=>match e with|.normal=>Q .normal a w|_=>False) (fun e a w he=>?_) (wp_region_held hm (h _ (fun _ _ _ _ _ h=>h) (fun _ _ h=>h)))
 cases e<;>first|exact he|exact False.elim he
theorem reg_now (i : Nat) (v : Value) (d : Option Tmp) (hQ : ∀ c a w d v, Q (.panic c) (a.put d v) w → Q (.panic c) a w) (hS : S w)
    (hi:(ops[i]?.isSome&&Region.noSelect ops&&Region.free .any ops listed i&&(Region.ready .any ops listed).contains i&&Region.wanted (opAt ops i) (yielded ops a.tmps))=true) (hd:(opAt ops i).dst=d)
    (hy:∀ w,(execOp a.eval (opAt ops i)).run P w=.ok (.value v) w) (h:wpAnyH P .any ops Q S fuel (listed.setIfInBounds i true) (a.put d v) w):wpAnyH P .any ops Q S (fuel+1) listed a w:=by
 simp only [Bool.and_eq_true] at hi;obtain ⟨⟨⟨⟨h1,h2⟩,h3⟩,h4⟩,h5⟩:=hi;subst hd;exact wpAnyH_now v (get_opAt h1) h2 h3 h4 h5 (fun c a w h=>hQ c a w _ _ h) hy hS h
theorem reg_nowIf (i : Nat) (v : Value) (d : Option Tmp) (hQ : ∀ c a w d v, Q (.panic c) (a.put d v) w → Q (.panic c) a w) (hS : S w)
    (hi:(ops[i]?.isSome&&Region.noSelect ops&&Region.free .any ops listed i&&(Region.ready .any ops listed).contains i&&Region.wanted (opAt ops i) (yielded ops a.tmps))=true) (hd:(opAt ops i).dst=d)
    (hy:∀ w,S w→(execOp a.eval (opAt ops i)).run P w=.ok (.value v) w) (h:wpAnyH P .any ops Q S fuel (listed.setIfInBounds i true) (a.put d v) w):wpAnyH P .any ops Q S (fuel+1) listed a w:=by
 simp only [Bool.and_eq_true] at hi;obtain ⟨⟨⟨⟨h1,h2⟩,h3⟩,h4⟩,h5⟩:=hi;subst hd;exact wpAnyH_nowIf v (get_opAt h1) h2 h3 h4 h5 (fun c a w h=>hQ c a w _ _ h) hy hS h
theorem reg_pass (i : Nat) (d : Option Tmp) (hQ : ∀ c a w d v, Q (.panic c) (a.put d v) w → Q (.panic c) a w) (hS : S w)
    (hi:(ops[i]?.isSome&&Region.noSelect ops&&Region.free .any ops listed i&&(Region.ready .any ops listed).contains i&&!Region.wanted (opAt ops i) (yielded ops a.tmps))=true) (hd:(opAt ops i).dst=d)
    (h:wpAnyH P .any ops Q S fuel (listed.setIfInBounds i true) (a.put d undef) w):wpAnyH P .any ops Q S (fuel+1) listed a w:=by
 simp only [Bool.and_eq_true,Bool.not_eq_true'] at hi;obtain ⟨⟨⟨⟨h1,h2⟩,h3⟩,h4⟩,h5⟩:=hi;subst hd;exact wpAnyH_take (get_opAt h1) h2 h3 h4 (fun c a w h=>hQ c a w _ _ h) (Or.inr ⟨h5,rfl⟩) hS h
theorem reg_value (i : Nat) (v : Value) (d : Option Tmp) (w' : World) (hi : (ops[i]?.isSome && (Region.ready .any ops listed == [i]) && Region.wanted (opAt ops i) (yielded ops a.tmps)) = true) (hd : (opAt ops i).dst = d)
    (hrun:(execOp a.eval (opAt ops i)).run P w=.ok (.value v) w') (hS:S w') (h:wpAnyH P .any ops Q S fuel (listed.setIfInBounds i true) (a.put d v) w'):wpAnyH P .any ops Q S (fuel+1) listed a w:=by
 simp only [Bool.and_eq_true,beq_iff_eq] at hi;obtain ⟨⟨h1,h2⟩,h3⟩:=hi;subst hd;exact wpAnyH_one h2 (wpOp_value v (get_opAt h1) h3 hrun ⟨hS,h⟩)
theorem reg_store (i : Nat) (w' : World) (hi : (ops[i]?.isSome && (Region.ready .any ops listed == [i]) && Region.wanted (opAt ops i) (yielded ops a.tmps)) = true) (hd : (opAt ops i).dst = none)
    (hrun:(execOp a.eval (opAt ops i)).run P w=.ok .skip w') (hS:S w') (h:wpAnyH P .any ops Q S fuel (listed.setIfInBounds i true) (a.put none undef) w'):wpAnyH P .any ops Q S (fuel+1) listed a w:=by
 simp only [Bool.and_eq_true,beq_iff_eq] at hi;obtain ⟨⟨h1,h2⟩,h3⟩:=hi;exact wpAnyH_one h2 (wpOp_skip (get_opAt h1) h3 hrun ⟨hS,by rw [hd];exact h⟩)
theorem reg_call (i : Nat) (f : FuncId) (args : Array Value) (d : Option Tmp) (R : Ending → World → Prop) (hi : (ops[i]?.isSome && (Region.ready .any ops listed == [i]) && Region.wanted (opAt ops i) (yielded ops a.tmps)) = true) (hd : (opAt ops i).dst = d)
    (hrun:(execOp a.eval (opAt ops i)).run P w=.ok (.enter f args) w) (hc:Calls P f args w R)
    (h:∀ e w',R e w'→∃ v,e=.returned v∧S w'∧wpAnyH P .any ops Q S fuel (listed.setIfInBounds i true) (a.put d v) w'):wpAnyH P .any ops Q S (fuel+1) listed a w:=by
 simp only [Bool.and_eq_true,beq_iff_eq] at hi;obtain ⟨⟨h1,h2⟩,h3⟩:=hi;subst hd;exact wpAnyH_one h2 (wpOp_callE f args R (get_opAt h1) h3 hrun hc h)
theorem reg_done (hr:Region.ready .any ops listed=[]) (h:Q .normal a w):wpAnyH P .any ops Q S fuel listed a w:=wpAnyH_done hr h _
end
end Go.Proofs.YtmceocgddaaohaaGreatDoor
namespace Go.Proofs.YtmceocgddaaohaaGreatDoor
open Go Go.RowKit
structure wpFrom (P:Program) (ops:Array Oper) (Q:Exit→Act→World→Prop) (i:Nat) (a:Act) (w:World):Prop where
 out:wpList P ops Q (ops.toList.drop i) a w
section
variable {P:Program} {ops:Array Oper} {Q:Exit→Act→World→Prop} {a:Act} {w:World}
theorem drop_opAt {i:Nat} (hi:ops[i]?.isSome=true):ops.toList.drop i=opAt ops i::ops.toList.drop (i+1):=by
 have h:=get_opAt hi;obtain ⟨hlt,he⟩:=Array.getElem?_eq_some_iff.1 h;rw [List.drop_eq_getElem_cons (by simpa using hlt)]
 simp [he]
theorem lin_begin {id:Nat} {ops0:Array Oper} (ops:Array Oper) (he:ops0=ops) (h:wpFrom P ops Q 0 a w):(Code.region id ops0 false).wp P Q a w:=by
 subst he;exact wp_region_list h.out
theorem lin_value (i : Nat) (v : Value) (d : Option Tmp) (w' : World) (hi : (ops[i]?.isSome && Region.wanted (opAt ops i) (yielded ops a.tmps)) = true) (hd : (opAt ops i).dst = d)
    (hrun:(execOp a.eval (opAt ops i)).run P w=.ok (.value v) w') (h:wpFrom P ops Q (i+1) (a.put d v) w'):wpFrom P ops Q i a w:=by
 simp only [Bool.and_eq_true] at hi;obtain ⟨h1,h2⟩:=hi;subst hd;refine ⟨?_⟩;rw [drop_opAt h1];refine wpList_step fun K hK=>?_;rw [if_pos h2];unfold Oper.wp;rw [hrun];exact hK _ _ h.out
theorem lin_now (i : Nat) (v : Value) (d : Option Tmp) (hi : (ops[i]?.isSome && Region.wanted (opAt ops i) (yielded ops a.tmps)) = true) (hd : (opAt ops i).dst = d)
    (hrun:(execOp a.eval (opAt ops i)).run P w=.ok (.value v) w) (h:wpFrom P ops Q (i+1) (a.put d v) w):wpFrom P ops Q i a w:=lin_value i v d w hi hd hrun h
theorem lin_store (i : Nat) (w' : World) (hi : (ops[i]?.isSome && Region.wanted (opAt ops i) (yielded ops a.tmps)) = true) (hd : (opAt ops i).dst = none)
    (hrun:(execOp a.eval (opAt ops i)).run P w=.ok .skip w') (h:wpFrom P ops Q (i+1) (a.put none undef) w'):wpFrom P ops Q i a w:=by
 simp only [Bool.and_eq_true] at hi;obtain ⟨h1,h2⟩:=hi;refine ⟨?_⟩;rw [drop_opAt h1];refine wpList_step fun K hK=>?_;rw [if_pos h2];unfold Oper.wp;rw [hrun];refine hK _ _ ?_;rw [hd];exact h.out
theorem lin_pass (i : Nat) (d : Option Tmp) (hi : (ops[i]?.isSome && !Region.wanted (opAt ops i) (yielded ops a.tmps)) = true) (hd : (opAt ops i).dst = d)
    (h:wpFrom P ops Q (i+1) (a.put d undef) w):wpFrom P ops Q i a w:=by
 simp only [Bool.and_eq_true,Bool.not_eq_true'] at hi;obtain ⟨h1,h2⟩:=hi;subst hd;refine ⟨?_⟩;rw [drop_opAt h1];refine wpList_step fun K hK=>?_;rw [h2,if_neg (by decide)];exact hK _ _ h.out
theorem lin_call (i : Nat) (f : FuncId) (args : Array Value) (d : Option Tmp) (R : Ending → World → Prop) (hi : (ops[i]?.isSome && Region.wanted (opAt ops i) (yielded ops a.tmps)) = true) (hd : (opAt ops i).dst = d)
    (hrun:(execOp a.eval (opAt ops i)).run P w=.ok (.enter f args) w) (hc:Calls P f args w R)
    (h:∀ e w',R e w'→∃ v,e=.returned v∧wpFrom P ops Q (i+1) (a.put d v) w'):wpFrom P ops Q i a w:=by
 simp only [Bool.and_eq_true] at hi;obtain ⟨h1,h2⟩:=hi;subst hd;refine ⟨?_⟩;rw [drop_opAt h1];refine wpList_step fun K hK=>?_;rw [if_pos h2];unfold Oper.wp;rw [hrun];refine hc.mono fun e w' hR=>?_;obtain ⟨v,rfl,hk⟩:=h e w' hR;exact hK _ _ hk.out
theorem lin_done (i:Nat) (hi:ops.size=i) (h:Q .normal a w):wpFrom P ops Q i a w:=by
 refine ⟨?_⟩;rw [List.drop_eq_nil_of_le (by simp [hi])];exact wpList_nil h
end
end Go.Proofs.YtmceocgddaaohaaGreatDoor
namespace Go.Proofs.YtmceocgddaaohaaGreatDoor
open Go Go.RowKit
section
variable {P:Program} (w:World)
theorem run_part_ints {e:TypeId} {k:IntKind} (he:P.underlying e=some (.int k)) (l:List Int) (i:Nat) (hi:i<l.length):(part e (ints k l).toArray i).run P w=.ok (.int k (l.getD i 0)) w:=by
 have hag:(isAgg e).run P w=.ok false w:=(by unfold isAgg;rw [Sem.run_bind,run_underlying he w];rfl);unfold part;simp only [Sem.run_bind,hag,Result.andThen_ok,Bool.false_eq_true,if_false];have:(ints k l).toArray[i]?=some (.int k (l.getD i 0)):=(by simpa using ints_getD (k:=k) hi);rw [this]
 rfl
theorem run_eqItems_ints {e : TypeId} {k : IntKind} (d : Nat) (he : P.underlying e = some (.int k)) (xs ys : List Int) : ∀ (is : List Nat), (∀ i ∈ is, i < xs.length ∧ i < ys.length) →
    (Op.eqItems (d+1) e 1 (ints k xs).toArray (ints k ys).toArray is).run P w=.ok (is.all fun i=>xs.getD i 0==ys.getD i 0) w
 |[],_=>by simp [Op.eqItems]
 |i::is,h=>by
  have hi:=h i (by simp);have ih:=run_eqItems_ints d he xs ys is (fun j hj=>h j (by simp [hj]))
  simp only [Op.eqItems,Sem.run_bind,Nat.mul_one,run_part_ints w he xs i hi.1,run_part_ints w he ys i hi.2,Result.andThen_ok,run_equalIn_int w d e k k _ _ he];cases hb:(xs.getD i 0==ys.getD i 0)
  ·simp only [List.all_cons,hb,Bool.false_and,Bool.not_false,if_true]
   rfl
  ·simp only [List.all_cons,hb,Bool.true_and]
   simpa using ih
theorem all_range (xs ys:List Int) (n:Nat) (hx:xs.length=n) (hy:ys.length=n):((List.range n).all fun i=>xs.getD i 0==ys.getD i 0)=decide (xs=ys):=by
 rw [Bool.eq_iff_iff];simp only [List.all_eq_true,List.mem_range,beq_iff_eq,decide_eq_true_eq]
 constructor
 ·intro h
  apply List.ext_getElem (by omega)
  intro i h1 h2;have:=h i (by omega)
  simpa [List.getD_eq_getElem?_getD,h1,h2] using this
 ·rintro rfl i _;rfl
theorem run_equalIn_ints {t e : TypeId} {k : IntKind} {n : Nat} (d : Nat) (ht : P.underlying t = some (.array n e)) (he : P.underlying e = some (.int k)) (hi : (P.info? e).map (·.size) = some 1) (xs ys : List Int) (hx : xs.length = n) (hy : ys.length = n) :
    (Op.equalIn (d+2) t (.agg (ints k xs).toArray) (.agg (ints k ys).toArray)).run P w=.ok (decide (xs=ys)) w:=by
 obtain ⟨i,hi1,hi2⟩:=Option.map_eq_some_iff.1 hi;have hc:P.cellsOf e=1:=(by simp [Program.cellsOf,hi1,hi2]);rw [run_equalIn_array w (d+1) _ _ ht hi1,hc,run_eqItems_ints w d he xs ys _ (fun j hj=>by rw [List.mem_range] at hj;omega),all_range xs ys n hx hy]
end
end Go.Proofs.YtmceocgddaaohaaGreatDoor
namespace Go.Proofs.YtmceocgddaaohaaGreatDoor
open Go Go.RowKit
end Go.Proofs.YtmceocgddaaohaaGreatDoor
namespace Go.Proofs.YtmceocgddaaohaaGreatDoor
open Go.RowKit
set_option maxRecDepth 100000
theorem exec_indexAt {P:Program} {a:Act} {w:World} {op:Oper} (t:TypeId) (x ix:Operand) (ho:op.op=.indexAddr t x ix) (vx vi p:Value) (hx:a.eval x=vx) (hi:a.eval ix=vi) (h:(Instr.indexAt t vx vi).run P w=.ok p w):(execOp a.eval op).run P w=.ok (.value p) w:=by
 unfold execOp;simp only [ho,hx,hi,Sem.run_bind,Sem.run_pure,h,Result.andThen_ok]
section
variable {P:Program} {ops:Array Oper} {Q:Exit→Act→World→Prop} {S:World→Prop} {fuel:Nat} {listed:Array Bool} {a:Act} {w:World}
theorem reg_two (i j : Nat) (hr : (Region.ready .any ops listed == [i, j]) = true)
    (h1:wpOp P ops Q i (fun a' w'=>S w'∧wpAnyH P .any ops Q S fuel (listed.setIfInBounds i true) a' w') a w) (h2:wpOp P ops Q j (fun a' w'=>S w'∧wpAnyH P .any ops Q S fuel (listed.setIfInBounds j true) a' w') a w):wpAnyH P .any ops Q S (fuel+1) listed a w:=
 wpAnyH_two (beq_iff_eq.1 hr) h1 h2
theorem op_value (i : Nat) (v : Value) (d : Option Tmp) (w' : World) {K : Act → World → Prop} (hi : (ops[i]?.isSome && Region.wanted (opAt ops i) (yielded ops a.tmps)) = true) (hd : (opAt ops i).dst = d)
    (hrun:(execOp a.eval (opAt ops i)).run P w=.ok (.value v) w') (h:K (a.put d v) w'):wpOp P ops Q i K a w:=by
 simp only [Bool.and_eq_true] at hi;subst hd;exact wpOp_value v (get_opAt hi.1) hi.2 hrun h
theorem op_call (i : Nat) (f : FuncId) (args : Array Value) (d : Option Tmp) (R : Ending → World → Prop) {K : Act → World → Prop} (hi : (ops[i]?.isSome && Region.wanted (opAt ops i) (yielded ops a.tmps)) = true) (hd : (opAt ops i).dst = d)
    (hrun:(execOp a.eval (opAt ops i)).run P w=.ok (.enter f args) w) (hc:Calls P f args w R) (h:∀ e w',R e w'→∃ v,e=.returned v∧K (a.put d v) w'):wpOp P ops Q i K a w:=by
 simp only [Bool.and_eq_true] at hi;subst hd;exact wpOp_callE f args R (get_opAt hi.1) hi.2 hrun hc h
theorem reg_cast {l':Array Bool} {a':Act} (hl:listed=l') (ha:a=a') (h:wpAnyH P .any ops Q S fuel l' a' w):wpAnyH P .any ops Q S fuel listed a w:=by
 subst hl;subst ha;exact h
end
end Go.Proofs.YtmceocgddaaohaaGreatDoor
namespace Go.Proofs.YtmceocgddaaohaaGreatDoor
open Go Go.RowKit
abbrev Wr:=Nat × List Int
end Go.Proofs.YtmceocgddaaohaaGreatDoor
namespace Go.Proofs.YtmceocgddaaohaaGreatDoor
open Go Go.RowKit
set_option maxRecDepth 100000
structure Step (F:List Nat) (w:World) (F':List Nat) (w':World):Prop where
 os:w'.os=w.os
 tape:w'.tape=w.tape
 output:w'.output=w.output
 size:w.heap.size≤w'.heap.size
 block:∀ k,k<w.heap.size→k∉F→w'.heap[k]?=w.heap[k]?
 fresh:∀ k∈F',k∈F∨w.heap.size≤k
theorem Step.off {F F':List Nat} {w w':World} (h:Step F w F' w') {k:Nat} (hk:k<w.heap.size) (hF:k∉F):k∉F':=fun hc=>by
 rcases h.fresh k hc with h1|h1
 ·exact hF h1
 ·omega
theorem Step.of_below {F:List Nat} {B:Nat} {w w':World} (h:Below B w w') (hB:w.heap.size≤B):Step F w F w':=
 ⟨h.os,h.tape,h.output,h.size,fun k hk _=>h.block k (by omega),fun _ h=>.inl h⟩
theorem Step.of_upd {F:List Nat} {b:Nat} {w w':World} (h:Upd b w w') (hb:b∈F):Step F w F w':=
 ⟨h.os,h.tape,h.output,h.size,fun k hk hF=>h.block k hk (fun e=>hF (e ▸ hb)),fun _ h=>.inl h⟩
theorem own_step {F F':List Nat} {w w':World} {base s n:Nat} {e:TypeId} {v:Value} {xs:List Value} (h:w.ownsRow base e s v n xs) (hu:Step F w F' w') (hv:∀ g,v.ownBlock=some g→g∉F):w'.ownsRow base e s v n xs:=by
 refine ⟨h.1,?_⟩;rcases h.2 with ⟨rfl,h0⟩|⟨g,cap,cur,rfl,h1,h2,h3⟩
 ·exact .inl ⟨rfl,h0⟩
 ·refine .inr ⟨g,cap,cur,rfl,h1,?_,h3⟩
  rw [hu.block g (Array.getElem?_eq_some_iff.1 h2).1 (hv g rfl)];exact h2
theorem exec_alloc {P : Program} {a : Act} {w : World} {op : Oper} (ty : TypeId) (ho : op.op = .alloc ty) (z : Value) (hz : (P.info? ty).map (·.zero) = some (some z)) :
    (execOp a.eval op).run P w=.ok (.value (.pointer (some ⟨w.heap.size,0,none⟩))) (w.alloc (.cells z.cells ty)):=by
 obtain ⟨i,hi,hz'⟩:=Option.map_eq_some_iff.1 hz;have hr:(zeroValue ty).run P w=.ok z w:=by
  simp [zeroValue,typeInfo,hi,hz']
 unfold execOp;simp only [ho,Instr.alloc,Sem.run_bind,hr,Result.andThen_ok]
 rfl
theorem exec_load_cell {P : Program} {a : Act} {w : World} {op : Oper} (ty : TypeId) (x : Operand) (ho : op.op = .load ty x) (b o : Nat) (hx : a.eval x = .pointer (some ⟨b, o, none⟩)) (v : Value) (hc : w.cell? ⟨b, o, none⟩ = some v)
    (d:TypeDesc) (hd:P.underlying ty=some d) (hr:d.isRow=false):(execOp a.eval op).run P w=.ok (.value v) w:=by
 have hagg:(isAgg ty).run P w=.ok false w:=by
  unfold isAgg;rw [Sem.run_bind,run_underlying hd w];cases d<;>simp_all
 have hl:(loadVar ty ⟨b,o,none⟩).run P w=.ok v w:=by
  simp [loadVar,Sem.run_bind,hagg,hc]
 unfold execOp;simp only [ho,hx,Instr.loadAt,Instr.sureAddr,Sem.run_bind,Sem.run_pure,Result.andThen_ok,hl]
theorem exec_store_cell {P : Program} {a : Act} {w : World} {op : Oper} (ty : TypeId) (x y : Operand) (ho : op.op = .store ty x y) (b o : Nat) (v : Value) (hx : a.eval x = .pointer (some ⟨b, o, none⟩)) (hy : a.eval y = v) (t : TypeId) (cs : List Value) (hb : Blk w b t cs) (hl : o < cs.length)
    (hi:(P.info? ty).map (·.size)=some 1) (h1:v.cells=#[v]) (hone:v.oneCell'=true):(execOp a.eval op).run P w=.ok .skip (w.setCell ⟨b,o,none⟩ v):=by
 have e:storeVar ty ⟨b,o,none⟩ v=storeVar ty ⟨b,o,none⟩ (.agg #[v]):=by
  unfold storeVar;rw [h1]
  rfl
 unfold execOp;simp only [ho,hx,hy,Instr.storeAt,Instr.sureAddr,Sem.run_bind,Sem.run_pure,Result.andThen_ok];rw [e,run_storeVar_mid w b o ty #[v] (by simpa using hb.there o 1 (by omega)) (by simpa using hi) (by simp [hone])]
 rfl
end Go.Proofs.YtmceocgddaaohaaGreatDoor
namespace Go.Proofs.YtmceocgddaaohaaGreatDoor
open Go Go.RowKit
set_option maxRecDepth 100000
theorem exec_of {P:Program} {a:Act} {w w':World} {op:Oper} (s:Sem Value) (v:Value) (h:execOp a.eval op=(s >>= fun x=>pure (.value x))) (hr:s.run P w=.ok v w'):(execOp a.eval op).run P w=.ok (.value v) w':=by
 rw [h,Sem.run_bind,hr];rfl
section
variable {w:World} {d sz sB dB sc dc:Nat} {rs rd:List Value} {pv:Value} {seen dur:List Int} {pend:List Wr} {left:Int}
end
end Go.Proofs.YtmceocgddaaohaaGreatDoor
namespace Go.Proofs.YtmceocgddaaohaaGreatDoor
open Go Go.RowKit
set_option maxRecDepth 100000
end Go.Proofs.YtmceocgddaaohaaGreatDoor
namespace Go.Proofs.YtmceocgddaaohaaGreatDoor
open Go Go.RowKit
set_option maxRecDepth 100000
theorem boxed (w:World) (t:TypeId) (z vs:List Value) (hl:vs.length=z.length):Blk ((w.alloc (.cells z.toArray t)).setCells w.heap.size 0 vs) w.heap.size t vs∧Below w.heap.size w ((w.alloc (.cells z.toArray t)).setCells w.heap.size 0 vs)∧((w.alloc (.cells z.toArray t)).setCells w.heap.size 0 vs).heap.size=w.heap.size+1:=
 ⟨(Blk.new w t z).setWhole vs hl,below_setCells vs ((Below.refl _ _).alloc (Nat.le_refl _) _) 0 (Nat.le_refl _),by rw [size_setCells];simp⟩
end Go.Proofs.YtmceocgddaaohaaGreatDoor
namespace Go.Proofs.YtmceocgddaaohaaGreatDoor
open Go Go.RowKit
set_option maxRecDepth 100000
section
variable {P:Program} {ops:Array Oper} {Q:Exit→Act→World→Prop} {S:World→Prop} {fuel:Nat} {listed:Array Bool} {a:Act} {w:World}
theorem exec_box {op : Oper} (ty : TypeId) (x : Operand) (ho : op.op = .box ty x) (cs : List Value) (hx : a.eval x = .agg cs.toArray) :
    (execOp a.eval op).run P w=.ok (.value (.pointer (some ⟨w.heap.size,0,none⟩))) (w.alloc (.cells cs.toArray ty)):=by
 unfold execOp;simp only [ho,hx,Instr.box]
 rfl
theorem lin_alloc (i : Nat) (ty : TypeId) (z : List Value) (q : Nat) (d : Option Tmp) (hi : (ops[i]?.isSome && Region.wanted (opAt ops i) (yielded ops a.tmps)) = true) (hd : (opAt ops i).dst = d)
    (ho:(opAt ops i).op=.alloc ty) (hz:(P.info? ty).map (·.zero)=some (some (.agg z.toArray))) (hq:Hid (w.heap.size=q))
    (h:∀ w',Blk w' q ty z→Below q w w'→Hid (w'.heap.size=q+1)→wpFrom P ops Q (i+1) (a.put d (.pointer (some ⟨q,0,none⟩))) w'):wpFrom P ops Q i a w:=by
 obtain rfl:=hq.out;exact lin_value i _ d _ hi hd (exec_alloc ty ho (.agg z.toArray) hz) (h _ (Blk.new w ty z) ((Below.refl _ _).alloc (Nat.le_refl _) _) (by unfold Hid;simp))
theorem lin_box (i : Nat) (ty : TypeId) (x : Operand) (z : List Value) (q : Nat) (d : Option Tmp) (hi : (ops[i]?.isSome && Region.wanted (opAt ops i) (yielded ops a.tmps)) = true) (hd : (opAt ops i).dst = d)
    (ho:(opAt ops i).op=.box ty x) (hx:a.eval x=.agg z.toArray) (hq:Hid (w.heap.size=q))
    (h:∀ w',Blk w' q ty z→Below q w w'→Hid (w'.heap.size=q+1)→wpFrom P ops Q (i+1) (a.put d (.pointer (some ⟨q,0,none⟩))) w'):wpFrom P ops Q i a w:=by
 obtain rfl:=hq.out;exact lin_value i _ d _ hi hd (exec_box ty x ho z hx) (h _ (Blk.new w ty z) ((Below.refl _ _).alloc (Nat.le_refl _) _) (by unfold Hid;simp))
theorem lin_load (i : Nat) (ty : TypeId) (x : Operand) (b : Nat) (t : TypeId) (cs : List Value) (d : Option Tmp) (hi : (ops[i]?.isSome && Region.wanted (opAt ops i) (yielded ops a.tmps)) = true) (hd : (opAt ops i).dst = d)
    (ho:(opAt ops i).op=.load ty x) (hx:a.eval x=.pointer (some ⟨b,0,none⟩)) (hb:Blk w b t cs) (D:TypeDesc) (hu:P.underlying ty=some D) (hr:D.isRow=true) (hz:(P.info? ty).map (·.size)=some cs.length)
    (h:wpFrom P ops Q (i+1) (a.put d (.agg cs.toArray)) w):wpFrom P ops Q i a w:=
 lin_now i _ d hi hd (exec_load_mid ty x ho b 0 hx cs D hb.whole hu hr hz) h
theorem lin_put (i : Nat) (ty : TypeId) (x y : Operand) (b : Nat) (t : TypeId) (cs vs : List Value) (hi : (ops[i]?.isSome && Region.wanted (opAt ops i) (yielded ops a.tmps)) = true) (hd : (opAt ops i).dst = none)
    (ho:(opAt ops i).op=.store ty x y) (hx:a.eval x=.pointer (some ⟨b,0,none⟩)) (hy:a.eval y=.agg vs.toArray) (hb:Blk w b t cs) (hl:vs.length=cs.length) (hz:(P.info? ty).map (·.size)=some vs.length) (h1:vs.toArray.all (·.oneCell')=true)
    (h:∀ w',Blk w' b t vs→Upd b w w'→wpFrom P ops Q (i+1) (a.put none undef) w'):wpFrom P ops Q i a w:=
 lin_store i (w.setCells b 0 vs) hi hd (exec_store_mid ty x y ho b 0 vs hx hy (hb.there 0 _ (by omega)) hz h1) (h _ (hb.setWhole vs hl) ((Upd.refl b w).setCells vs 0))
end
end Go.Proofs.YtmceocgddaaohaaGreatDoor
namespace Go.Proofs.YtmceocgddaaohaaGreatDoor
open Go Go.RowKit
section
variable {P:Program} {ops:Array Oper} {Q:Exit→Act→World→Prop} {a:Act} {w:World}
theorem lnow (i : Nat) (v : Value) (d : Option Tmp) (h : wpFrom P ops Q (i + 1) (a.put d v) w) (hi : (ops[i]?.isSome && Region.wanted (opAt ops i) (yielded ops a.tmps)) = true := by kernel_rfl) (hd : (opAt ops i).dst = d := by kernel_rfl)
    (hrun:(execOp a.eval (opAt ops i)).run P w=.ok (.value v) w:=by kernel_rfl):wpFrom P ops Q i a w:=lin_now i v d hi hd hrun h
theorem lnowP (i:Nat) (v:Value) (d:Option Tmp) (hrun:(execOp a.eval (opAt ops i)).run P w=.ok (.value v) w) (h:wpFrom P ops Q (i+1) (a.put d v) w) (hi:(ops[i]?.isSome&&Region.wanted (opAt ops i) (yielded ops a.tmps))=true:=by kernel_rfl) (hd:(opAt ops i).dst=d:=by kernel_rfl):wpFrom P ops Q i a w:=lin_now i v d hi hd hrun h
theorem lpas (i:Nat) (d:Option Tmp) (h:wpFrom P ops Q (i+1) (a.put d undef) w) (hi:(ops[i]?.isSome&&!Region.wanted (opAt ops i) (yielded ops a.tmps))=true:=by kernel_rfl) (hd:(opAt ops i).dst=d:=by kernel_rfl):wpFrom P ops Q i a w:=lin_pass i d hi hd h
theorem lbeg {id:Nat} {ops0:Array Oper} (ops:Array Oper) (h:wpFrom P ops Q 0 a w) (he:ops0=ops:=by kernel_rfl):(Code.region id ops0 false).wp P Q a w:=lin_begin ops he h
theorem ldn (i:Nat) (h:Q .normal a w) (hi:ops.size=i:=by kernel_rfl):wpFrom P ops Q i a w:=lin_done i hi h
theorem lput (i : Nat) (ty : TypeId) (x y : Operand) (b : Nat) (t : TypeId) (cs vs : List Value) (hb : Blk w b t cs) (hl : vs.length = cs.length) (hz : (P.info? ty).map (·.size) = some vs.length) (h1 : vs.toArray.all (·.oneCell') = true)
    (h:∀ w',Blk w' b t vs→Upd b w w'→wpFrom P ops Q (i+1) (a.put none undef) w') (hi:(ops[i]?.isSome&&Region.wanted (opAt ops i) (yielded ops a.tmps))=true:=by kernel_rfl) (hd:(opAt ops i).dst=none:=by kernel_rfl)
    (ho:(opAt ops i).op=.store ty x y:=by kernel_rfl) (hx:a.eval x=.pointer (some ⟨b,0,none⟩):=by kernel_rfl) (hy:a.eval y=.agg vs.toArray:=by kernel_rfl):wpFrom P ops Q i a w:=lin_put i ty x y b t cs vs hi hd ho hx hy hb hl hz h1 h
theorem lcal (i : Nat) (f : FuncId) (args : Array Value) (d : Option Tmp) (R : Ending → World → Prop) (hc : Calls P f args w R) (h : ∀ e w', R e w' → ∃ v, e = .returned v ∧ wpFrom P ops Q (i + 1) (a.put d v) w')
    (hi:(ops[i]?.isSome&&Region.wanted (opAt ops i) (yielded ops a.tmps))=true:=by kernel_rfl) (hd:(opAt ops i).dst=d:=by kernel_rfl) (hrun:(execOp a.eval (opAt ops i)).run P w=.ok (.enter f args) w:=by kernel_rfl):wpFrom P ops Q i a w:=lin_call i f args d R hi hd hrun hc h
theorem lall (i : Nat) (ty : TypeId) (z : List Value) (q : Nat) (d : Option Tmp) (hq : Hid (w.heap.size = q)) (h : ∀ w', Blk w' q ty z → Below q w w' → Hid (w'.heap.size = q + 1) → wpFrom P ops Q (i + 1) (a.put d (.pointer (some ⟨q, 0, none⟩))) w')
    (hi:(ops[i]?.isSome&&Region.wanted (opAt ops i) (yielded ops a.tmps))=true:=by kernel_rfl) (hd:(opAt ops i).dst=d:=by kernel_rfl) (ho:(opAt ops i).op=.alloc ty:=by kernel_rfl) (hz:(P.info? ty).map (·.zero)=some (some (.agg z.toArray)):=by kernel_rfl):wpFrom P ops Q i a w:=lin_alloc i ty z q d hi hd ho hz hq h
theorem lbox (i : Nat) (ty : TypeId) (x : Operand) (z : List Value) (q : Nat) (d : Option Tmp) (hq : Hid (w.heap.size = q)) (h : ∀ w', Blk w' q ty z → Below q w w' → Hid (w'.heap.size = q + 1) → wpFrom P ops Q (i + 1) (a.put d (.pointer (some ⟨q, 0, none⟩))) w')
    (hi:(ops[i]?.isSome&&Region.wanted (opAt ops i) (yielded ops a.tmps))=true:=by kernel_rfl) (hd:(opAt ops i).dst=d:=by kernel_rfl) (ho:(opAt ops i).op=.box ty x:=by kernel_rfl) (hx:a.eval x=.agg z.toArray:=by kernel_rfl):wpFrom P ops Q i a w:=lin_box i ty x z q d hi hd ho hx hq h
theorem lcl (i : Nat) (v : Value) (d : Option Tmp) (ty x b o : Nat) (hc : w.cell? ⟨b, o, none⟩ = some v) {dd : TypeDesc} (hdd : P.underlying ty = some dd) (h : wpFrom P ops Q (i + 1) (a.put d v) w) (hi : (ops[i]?.isSome && Region.wanted (opAt ops i) (yielded ops a.tmps)) = true := by kernel_rfl) (hd : (opAt ops i).dst = d := by kernel_rfl)
    (ho:(opAt ops i).op=.load ty (.tmp x):=by kernel_rfl) (hx:a.eval (.tmp x)=.pointer (some ⟨b,o,none⟩):=by kernel_rfl) (hr:dd.isRow=false:=by rfl):wpFrom P ops Q i a w:=lin_now i v d hi hd (exec_load_cell ty (.tmp x) ho b o hx v hc dd hdd hr) h
theorem lrl (i : Nat) (cs : List Value) (d : Option Tmp) (ty x b o : Nat) (hc : w.rangeAt b o cs) {dd : TypeDesc} (hdd : P.underlying ty = some dd) (hz : (P.info? ty).map (·.size) = some cs.length) (h : wpFrom P ops Q (i + 1) (a.put d (.agg cs.toArray)) w) (hi : (ops[i]?.isSome && Region.wanted (opAt ops i) (yielded ops a.tmps)) = true := by kernel_rfl) (hd : (opAt ops i).dst = d := by kernel_rfl)
    (ho:(opAt ops i).op=.load ty (.tmp x):=by kernel_rfl) (hx:a.eval (.tmp x)=.pointer (some ⟨b,o,none⟩):=by kernel_rfl) (hr:dd.isRow=true:=by rfl):wpFrom P ops Q i a w:=lin_now i (.agg cs.toArray) d hi hd (exec_load_mid ty (.tmp x) ho b o hx cs dd hc hdd hr hz) h
theorem lix (i : Nat) (p : Value) (d : Option Tmp) (t x ix : Nat) {vx vi : Value} (hrun : (Instr.indexAt t vx vi).run P w = .ok p w) (h : wpFrom P ops Q (i + 1) (a.put d p) w) (hi : (ops[i]?.isSome && Region.wanted (opAt ops i) (yielded ops a.tmps)) = true := by kernel_rfl) (hd : (opAt ops i).dst = d := by kernel_rfl)
    (ho:(opAt ops i).op=.indexAddr t (.tmp x) (.tmp ix):=by kernel_rfl) (hx:a.eval (.tmp x)=vx:=by kernel_rfl) (hix:a.eval (.tmp ix)=vi:=by kernel_rfl):wpFrom P ops Q i a w:=lin_now i p d hi hd (exec_indexAt t (.tmp x) (.tmp ix) ho vx vi p hx hix hrun) h
theorem sA {α:Type} (xs:List α) (i:Nat) (x:α):xs.toArray.setIfInBounds i x=(xs.set i x).toArray:=List.setIfInBounds_toArray ..
theorem sC {α:Type} (y:α) (xs:List α) (i:Nat) (x:α):(y::xs).set (i+1) x=y::xs.set i x:=List.set_cons_succ ..
theorem sZ {α:Type} (y:α) (xs:List α) (x:α):(y::xs).set 0 x=x::xs:=List.set_cons_zero ..
theorem ldq {b:Act} (i:Nat) (h:Q .normal b w) (hi:ops.size=i:=by kernel_rfl) (ha:a=b:=by (simp only [Act.put,sA,sC,sZ];rfl)):wpFrom P ops Q i a w:=by
 subst ha;exact lin_done i hi h
theorem rcq {S:World→Prop} {fuel:Nat} {l l':Array Bool} {b:Act} (h:wpAnyH P .any ops Q S fuel l' b w) (hl:l=l':=by (simp only [sA,sC,sZ];rfl)) (ha:a=b:=by (simp only [Act.put,sA,sC,sZ];rfl)):wpAnyH P .any ops Q S fuel l a w:=by
 subst hl;subst ha;exact h
theorem hZ {p:Prop} (h:p):Hid p:=h
theorem lq {R:Exit→Act→World→Prop} {e:Exit} {b:Act} (h:R e b w) (ha:a=b:=by (simp only [Act.put,sA,sC,sZ];rfl)):R e a w:=by
 subst ha;exact h
end
end Go.Proofs.YtmceocgddaaohaaGreatDoor
