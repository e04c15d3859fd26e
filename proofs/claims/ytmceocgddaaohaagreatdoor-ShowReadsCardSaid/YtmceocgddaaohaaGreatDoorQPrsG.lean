import Derived.Test.YtmceocgddaaohaaGreatDoorQPrsF
namespace Go.Proofs.YtmceocgddaaohaaGreatDoor
open Go Go.RowKit
set_option maxRecDepth 100000
section
variable {P:Program} {ops:Array Oper} {Q:Exit→Act→World→Prop}
theorem wpOp_callP {i : Nat} {K : Act → World → Prop} {a : Act} {w : World} {op : Oper} (f : FuncId) (args : Array Value) (R : Ending → World → Prop) (hi : ops[i]? = some op) (hw : Region.wanted op (yielded ops a.tmps) = true)
    (hrun:(execOp a.eval op).run P w=.ok (.enter f args) w) (hc:Calls P f args w R) (h:∀ e w',R e w'→(∃ v,e=.returned v∧K (a.put op.dst v) w')∨(∃ ch,e=.panicked ch∧Q (.panic ch) a w')):wpOp P ops Q i K a w:=by
 unfold wpOp;simp only [hi];rw [if_pos hw];refine Or.inl ?_;unfold Oper.wp;rw [hrun];refine hc.mono fun e w' hR=>?_;rcases h e w' hR with ⟨v,rfl,hk⟩|⟨ch,rfl,hk⟩
 ·exact hk
 ·exact hk
end
section
variable {ops:Array Oper} {Q:Exit→Act→World→Prop}
def chP (K:Nat→Nat) (p c:Nat):List PanicEntry:=[{ v:=.iface 113 (.agg #[.int .i64 (K p:Int),.int .i64 (c:Int)]),recovered:=false }]
theorem reg_lcPP {β γ : Type} {K : Nat → Nat} {q : Nat} {o : PR β} {R : β → Value → World → World → Prop} {k : β → List (List UInt8) → PR γ} {oo : PR γ} {fuel : Nat} {listed : Array Bool} {a : Act} {w : World} (i j : Nat) (vi : Value) (di dj : Tmp) (f : FuncId) (args : Array Value)
    (hst:(ops[i]?.isSome&&ops[j]?.isSome&&(opAt ops i).guard.isNone&&(opAt ops j).guard.isNone&&(Region.ready .any ops listed==[i,j])&&(Region.ready .any ops (listed.setIfInBounds i true)==[j])&&(Region.ready .any ops (listed.setIfInBounds j true)==[i]))=true)
    (hdi:(opAt ops i).dst=some di) (hdj:(opAt ops j).dst=some dj) (nij:di≠dj) (eij:i≠j)
    (hi0:(execOp a.eval (opAt ops i)).run Tryz.prog w=.ok (.value vi) w) (hi1:∀ vj w1,Bel [q] w.heap.size w w1→(execOp (a.put (some dj) vj).eval (opAt ops i)).run Tryz.prog w1=.ok (.value vi) w1)
    (hj0:(execOp a.eval (opAt ops j)).run Tryz.prog w=.ok (.enter f args) w) (hj1:(execOp (a.put (some di) vi).eval (opAt ops j)).run Tryz.prog w=.ok (.enter f args) w)
    (hc:Calls Tryz.prog f args w (PP K q o R w)) (EQ:Hid (PR.bind o k=oo))
    (he:∀ (p c:Nat) (w':World),Bel [q] w.heap.size w w'→.err p c=oo→∀ a':Act,a'.defers=a.defers→Q (.panic (chP K p c)) a' w')
    (h:∀ (x:β) (l:List (List UInt8)) (v:Value) (w':World),o=.ok x l→Hid (k x l=oo)→Bel [q] w.heap.size w w'→R x v w w'→PAt K q w' l→wpAnyH Tryz.prog .any ops Q (fun _=>True) fuel ((listed.setIfInBounds i true).setIfInBounds j true) ((a.put (some di) vi).put (some dj) v) w'):wpAnyH Tryz.prog .any ops Q (fun _=>True) (fuel+2) listed a w:=by
 simp only [Bool.and_eq_true,beq_iff_eq] at hst;obtain ⟨⟨⟨⟨⟨⟨g1,g2⟩,n1⟩,n2⟩,r0⟩,ri⟩,rj⟩:=hst;have wi:∀ y,Region.wanted (opAt ops i) y=true:=fun y=>by simp [Region.wanted,Option.isNone_iff_eq_none.1 n1]
 have wj:∀ y,Region.wanted (opAt ops j) y=true:=fun y=>by simp [Region.wanted,Option.isNone_iff_eq_none.1 n2]
 have cij:∀ (b:Act) (v u:Value),(b.put (some dj) u).put (some di) v=(b.put (some di) v).put (some dj) u:=fun b v u=>Act.put_comm b u v (fun d h1 h2=>nij (by cases h1;cases h2;rfl))
 have key:∀ e w5,PP K q o R w e w5→(∃ p c,e=.panicked (chP K p c)∧Bel [q] w.heap.size w w5∧.err p c=oo)∨(∃ x l v,o=.ok x l∧e=.returned v∧Hid (k x l=oo)∧Bel [q] w.heap.size w w5∧R x v w w5∧PAt K q w5 l):=by
  rintro e w5 ⟨hb,hr⟩;cases o with
  |err p c=>exact .inl ⟨p,c,hr,hb,EQ.out⟩
  |ok x l=>
   obtain ⟨v,rfl,hv,hp⟩:=hr;exact .inr ⟨x,l,v,rfl,rfl,EQ,hb,hv,hp⟩
 refine wpAnyH_two r0 ?_ ?_
 ·refine wpOp_value vi (get_opAt g1) (wi _) hi0 ⟨trivial,wpAnyH_one ri ?_⟩
  rw [hdi];refine wpOp_callP f args _ (get_opAt g2) (wj _) hj1 hc (fun e w5 hR=>?_)
  rcases key e w5 hR with ⟨p,c,rfl,hb,ho⟩|⟨x,l,v,hx,rfl,hE,hb,hv,hp⟩
  ·exact .inr ⟨_,rfl,he p c w5 hb ho _ (put_defers _ _ _)⟩
  ·refine .inl ⟨v,rfl,trivial,?_⟩
   rw [hdj];exact h x l v w5 hx hE hb hv hp
 ·refine wpOp_callP f args _ (get_opAt g2) (wj _) hj0 hc (fun e w5 hR=>?_)
  rcases key e w5 hR with ⟨p,c,rfl,hb,ho⟩|⟨x,l,v,hx,rfl,hE,hb,hv,hp⟩
  ·exact .inr ⟨_,rfl,he p c w5 hb ho _ rfl⟩
  ·refine .inl ⟨v,rfl,trivial,?_⟩
   rw [hdj];refine wpAnyH_one rj ?_;refine wpOp_value vi (get_opAt g1) (wi _) (hi1 v w5 hb) ⟨trivial,?_⟩;rw [hdi,cij,Array.setIfInBounds_comm _ _ (Ne.symm eij)];exact h x l v w5 hx hE hb hv hp
theorem reg_llcPP {β γ : Type} {K : Nat → Nat} {q : Nat} {o : PR β} {R : β → Value → World → World → Prop} {k : β → List (List UInt8) → PR γ} {oo : PR γ} {fuel : Nat} {listed : Array Bool} {a : Act} {w : World} (i i2 j : Nat) (vi v2 : Value) (di d2 dj : Tmp) (f : FuncId) (args : Array Value)
    (hst:(ops[i]?.isSome&&ops[i2]?.isSome&&ops[j]?.isSome&&(opAt ops i).guard.isNone&&(opAt ops i2).guard.isNone&&(opAt ops j).guard.isNone&&(Region.ready .any ops listed==[i,i2,j])&&(Region.ready .any ops (listed.setIfInBounds i true)==[i2,j])&&(Region.ready .any ops (listed.setIfInBounds i2 true)==[i,j])&&(Region.ready .any ops (listed.setIfInBounds j true)==[i,i2])
     &&(Region.ready .any ops ((listed.setIfInBounds i true).setIfInBounds i2 true)==[j])&&(Region.ready .any ops ((listed.setIfInBounds i2 true).setIfInBounds i true)==[j])&&(Region.ready .any ops ((listed.setIfInBounds i true).setIfInBounds j true)==[i2])&&(Region.ready .any ops ((listed.setIfInBounds i2 true).setIfInBounds j true)==[i])&&(Region.ready .any ops ((listed.setIfInBounds j true).setIfInBounds i true)==[i2])&&(Region.ready .any ops ((listed.setIfInBounds j true).setIfInBounds i2 true)==[i]))=true)
    (hdi:(opAt ops i).dst=some di) (hd2:(opAt ops i2).dst=some d2) (hdj:(opAt ops j).dst=some dj) (nij:di≠dj) (n2j:d2≠dj) (ni2:di≠d2) (eij:i≠j) (e2j:i2≠j) (ei2:i≠i2)
    (A0:(execOp a.eval (opAt ops i)).run Tryz.prog w=.ok (.value vi) w) (A2:(execOp (a.put (some d2) v2).eval (opAt ops i)).run Tryz.prog w=.ok (.value vi) w) (Aj:∀ vj w1,Bel [q] w.heap.size w w1→(execOp (a.put (some dj) vj).eval (opAt ops i)).run Tryz.prog w1=.ok (.value vi) w1) (A2j:∀ vj w1,Bel [q] w.heap.size w w1→(execOp ((a.put (some d2) v2).put (some dj) vj).eval (opAt ops i)).run Tryz.prog w1=.ok (.value vi) w1) (Aj2:∀ vj w1,Bel [q] w.heap.size w w1→(execOp ((a.put (some dj) vj).put (some d2) v2).eval (opAt ops i)).run Tryz.prog w1=.ok (.value vi) w1)
    (B0:(execOp a.eval (opAt ops i2)).run Tryz.prog w=.ok (.value v2) w) (B1:(execOp (a.put (some di) vi).eval (opAt ops i2)).run Tryz.prog w=.ok (.value v2) w) (Bj:∀ vj w1,Bel [q] w.heap.size w w1→(execOp (a.put (some dj) vj).eval (opAt ops i2)).run Tryz.prog w1=.ok (.value v2) w1) (B1j:∀ vj w1,Bel [q] w.heap.size w w1→(execOp ((a.put (some di) vi).put (some dj) vj).eval (opAt ops i2)).run Tryz.prog w1=.ok (.value v2) w1) (Bj1:∀ vj w1,Bel [q] w.heap.size w w1→(execOp ((a.put (some dj) vj).put (some di) vi).eval (opAt ops i2)).run Tryz.prog w1=.ok (.value v2) w1)
    (C0:(execOp a.eval (opAt ops j)).run Tryz.prog w=.ok (.enter f args) w) (C1:(execOp (a.put (some di) vi).eval (opAt ops j)).run Tryz.prog w=.ok (.enter f args) w) (C2:(execOp (a.put (some d2) v2).eval (opAt ops j)).run Tryz.prog w=.ok (.enter f args) w) (C12:(execOp ((a.put (some di) vi).put (some d2) v2).eval (opAt ops j)).run Tryz.prog w=.ok (.enter f args) w) (C21:(execOp ((a.put (some d2) v2).put (some di) vi).eval (opAt ops j)).run Tryz.prog w=.ok (.enter f args) w)
    (hc:Calls Tryz.prog f args w (PP K q o R w)) (EQ:Hid (PR.bind o k=oo))
    (he:∀ (p c:Nat) (w':World),Bel [q] w.heap.size w w'→.err p c=oo→∀ a':Act,a'.defers=a.defers→Q (.panic (chP K p c)) a' w')
    (h:∀ (x:β) (l:List (List UInt8)) (v:Value) (w':World),o=.ok x l→Hid (k x l=oo)→Bel [q] w.heap.size w w'→R x v w w'→PAt K q w' l→wpAnyH Tryz.prog .any ops Q (fun _=>True) fuel (((listed.setIfInBounds i true).setIfInBounds i2 true).setIfInBounds j true) (((a.put (some di) vi).put (some d2) v2).put (some dj) v) w'):wpAnyH Tryz.prog .any ops Q (fun _=>True) (fuel+3) listed a w:=by
 simp only [Bool.and_eq_true,beq_iff_eq] at hst;obtain ⟨⟨⟨⟨⟨⟨⟨⟨⟨⟨⟨⟨⟨⟨⟨g1,g2⟩,g3⟩,n1⟩,n2⟩,n3⟩,r0⟩,ri⟩,r2⟩,rj⟩,r12⟩,r21⟩,r1j⟩,r2j⟩,rj1⟩,rj2⟩:=hst;have wi:∀ y,Region.wanted (opAt ops i) y=true:=fun y=>by simp [Region.wanted,Option.isNone_iff_eq_none.1 n1]
 have w2:∀ y,Region.wanted (opAt ops i2) y=true:=fun y=>by simp [Region.wanted,Option.isNone_iff_eq_none.1 n2]
 have wj:∀ y,Region.wanted (opAt ops j) y=true:=fun y=>by simp [Region.wanted,Option.isNone_iff_eq_none.1 n3]
 have cij:∀ (b:Act) (v u:Value),(b.put (some dj) u).put (some di) v=(b.put (some di) v).put (some dj) u:=fun b v u=>Act.put_comm b u v (fun d h1 h2=>nij (by cases h1;cases h2;rfl))
 have c2j:∀ (b:Act) (v u:Value),(b.put (some dj) u).put (some d2) v=(b.put (some d2) v).put (some dj) u:=fun b v u=>Act.put_comm b u v (fun d h1 h2=>n2j (by cases h1;cases h2;rfl))
 have c12:∀ (b:Act) (v u:Value),(b.put (some d2) u).put (some di) v=(b.put (some di) v).put (some d2) u:=fun b v u=>Act.put_comm b u v (fun d h1 h2=>ni2 (by cases h1;cases h2;rfl))
 have e1:(listed.setIfInBounds i2 true).setIfInBounds i true=(listed.setIfInBounds i true).setIfInBounds i2 true:=Array.setIfInBounds_comm _ _ (Ne.symm ei2);have e2:((listed.setIfInBounds j true).setIfInBounds i true).setIfInBounds i2 true=((listed.setIfInBounds i true).setIfInBounds i2 true).setIfInBounds j true:=by
  rw [Array.setIfInBounds_comm _ _ (Ne.symm eij),Array.setIfInBounds_comm _ _ (Ne.symm e2j)]
 have e3:((listed.setIfInBounds j true).setIfInBounds i2 true).setIfInBounds i true=((listed.setIfInBounds i true).setIfInBounds i2 true).setIfInBounds j true:=by
  rw [Array.setIfInBounds_comm _ _ (Ne.symm ei2)];exact e2
 have key:∀ e w5,PP K q o R w e w5→(∃ p c,e=.panicked (chP K p c)∧Bel [q] w.heap.size w w5∧.err p c=oo)∨(∃ x l v,o=.ok x l∧e=.returned v∧Hid (k x l=oo)∧Bel [q] w.heap.size w w5∧R x v w w5∧PAt K q w5 l):=by
  rintro e w5 ⟨hb,hr⟩;cases o with
  |err p c=>exact .inl ⟨p,c,hr,hb,EQ.out⟩
  |ok x l=>
   obtain ⟨v,rfl,hv,hp⟩:=hr;exact .inr ⟨x,l,v,rfl,rfl,EQ,hb,hv,hp⟩
 refine wpAnyH_all r0 (by simp) fun m hm=>?_;simp only [List.mem_cons,List.not_mem_nil,or_false] at hm;rcases hm with rfl|rfl|rfl
 ·refine wpOp_value vi (get_opAt g1) (wi _) A0 ⟨trivial,?_⟩
  rw [hdi];refine reg_lcPP i2 j v2 d2 dj f args ?_ hd2 hdj n2j e2j B1 B1j C1 C12 hc EQ (fun p c w' hb ho a' ha=>he p c w' hb ho a' (ha.trans (put_defers _ _ _))) h
  simp [g2,g3,n2,n3,ri,r12,r1j]
 ·refine wpOp_value v2 (get_opAt g2) (w2 _) B0 ⟨trivial,?_⟩
  rw [hd2];refine reg_lcPP i j vi di dj f args ?_ hdi hdj nij eij A2 A2j C2 C21 hc EQ (fun p c w' hb ho a' ha=>he p c w' hb ho a' (ha.trans (put_defers _ _ _))) (fun x l v w' hx hE hb hv hp=>?_)
  ·simp [g1,g3,n1,n3,r2,r21,r2j]
  ·rw [e1,c12]
   exact h x l v w' hx hE hb hv hp
 ·refine wpOp_callP f args _ (get_opAt g3) (wj _) C0 hc (fun e w5 hR=>?_)
  rcases key e w5 hR with ⟨p,c,rfl,hb,ho⟩|⟨x,l,v,hx,rfl,hE,hb,hv,hp⟩
  ·exact .inr ⟨_,rfl,he p c w5 hb ho _ rfl⟩
  ·refine .inl ⟨v,rfl,trivial,?_⟩
   rw [hdj];refine wpAnyH_two rj ?_ ?_
   ·refine wpOp_value vi (get_opAt g1) (wi _) (Aj v w5 hb) ⟨trivial,wpAnyH_one rj1 ?_⟩
    rw [hdi];refine wpOp_value v2 (get_opAt g2) (w2 _) (Bj1 v w5 hb) ⟨trivial,?_⟩;rw [hd2,cij,c2j,e2];exact h x l v w5 hx hE hb hv hp
   ·refine wpOp_value v2 (get_opAt g2) (w2 _) (Bj v w5 hb) ⟨trivial,wpAnyH_one rj2 ?_⟩
    rw [hd2];refine wpOp_value vi (get_opAt g1) (wi _) (Aj2 v w5 hb) ⟨trivial,?_⟩;rw [hdi,c2j,cij,c12,e3];exact h x l v w5 hx hE hb hv hp
end
def z6R:List Value:=[.int .i64 0,.int .i64 0,.int .i64 0,sT [],.slice none 0 0,.slice none 0 0]
theorem zeroRw:(Tryz.prog.info? 33).map (·.zero)=some (some (.agg z6R.toArray)):=by kernel_rfl
theorem rwSize {cs:List Value} (h:cs.length=6):(Tryz.prog.info? 33).map (·.size)=some cs.length:=by
 rw [h]
 kernel_rfl
theorem zRw_at (K:Nat→Nat) (F:List Nat) (w:World):RwAt K F w zRw z6R:=by
 rw [zRw,RwAt];exact ⟨_,_,rfl,LvsN.nil _ _ _ _,RwsAt.nil _ _ _ _⟩
def nodeC (K:Nat→Nat) (k n:Nat) (p:Option Nat) (s:List UInt8) (lv av:Value):List Value:=[.int .i64 (k:Int),.int .i64 (n:Int),.int .i64 (atK K p:Int),sT s,lv,av]
theorem node_at {K:Nat→Nat} {F:List Nat} {w:World} {k n:Nat} {p:Option Nat} {s:List UInt8} {nl:List Lv} {a:List Rw} {lv av:Value} (h1:LvsN F w lv nl) (h2:RwsAt K F w a av):RwAt K F w (.mk k n p s nl a) (nodeC K k n p s lv av):=by
 rw [RwAt];exact ⟨lv,av,rfl,h1,h2⟩
theorem mid_rangeR {p m s:List Value} {w:World} {q o:Nat} {t:TypeId} (hb:Blk w q t (p++(m++s))) (ho:p.length=o):w.rangeAt q o m:=fun j u hj=>by
 subst ho;refine hb.cell ?_;rw [List.getElem?_append_right (by omega),show p.length+j-p.length=j by omega,List.getElem?_append_left (List.getElem?_eq_some_iff.1 hj).1];exact hj
section
variable {K:Nat→Nat} {F:List Nat} {w:World} {t1 t2 t3:Rw} {c1 c2 c3:List Value} {z:Nat}
theorem args1 (hb:Blk w z 33 c1) (h1:RwAt K F w t1 c1) (hF:z∉F):RwsAt K F w [t1] (.slice (some ⟨z,0,none⟩) 1 1):=by
 refine RwsAt.of (ts:=[t1]) (Nat.le_refl _) hF hb.lt fun i t hi=>?_
 match i,hi with
 |0,hi=>
  obtain rfl:t1=t:=(by simpa using hi);exact ⟨c1,hb.whole,h1⟩
theorem args2 (hb:Blk w z 33 (c1++c2)) (h1:RwAt K F w t1 c1) (h2:RwAt K F w t2 c2) (hF:z∉F):RwsAt K F w [t1,t2] (.slice (some ⟨z,0,none⟩) 2 2):=by
 refine RwsAt.of (ts:=[t1,t2]) (Nat.le_refl _) hF hb.lt fun i t hi=>?_
 match i,hi with
 |0,hi=>
  obtain rfl:t1=t:=(by simpa using hi);exact ⟨c1,mid_rangeR (p:=[]) hb rfl,h1⟩
 |1,hi=>
  obtain rfl:t2=t:=(by simpa using hi);exact ⟨c2,mid_rangeR (p:=c1) (m:=c2) (s:=[]) (by rw [List.append_nil];exact hb) (by rw [h1.len]),h2⟩
theorem args3 (hb:Blk w z 33 (c1++(c2++c3))) (h1:RwAt K F w t1 c1) (h2:RwAt K F w t2 c2) (h3:RwAt K F w t3 c3) (hF:z∉F):RwsAt K F w [t1,t2,t3] (.slice (some ⟨z,0,none⟩) 3 3):=by
 refine RwsAt.of (ts:=[t1,t2,t3]) (Nat.le_refl _) hF hb.lt fun i t hi=>?_
 match i,hi with
 |0,hi=>
  obtain rfl:t1=t:=(by simpa using hi);exact ⟨c1,mid_rangeR (p:=[]) hb rfl,h1⟩
 |1,hi=>
  obtain rfl:t2=t:=(by simpa using hi);exact ⟨c2,mid_rangeR (p:=c1) hb (by rw [h1.len]),h2⟩
 |2,hi=>
  obtain rfl:t3=t:=(by simpa using hi);exact ⟨c3,mid_rangeR (p:=c1++c2) (m:=c3) (s:=[]) (by rw [List.append_nil,List.append_assoc];exact hb) (by rw [List.length_append,h1.len,h2.len]),h3⟩
theorem run_raw1 (k n p:Int) (s:ByteArray) (la aa:Option Addr) (L lc N ac:Nat) (w:World):(Instr.buildSlice 31 1 #[(0,.agg [Value.int .i64 k,.int .i64 n,.int .i64 p,.string s,.slice la L lc,.slice aa N ac].toArray)]).run Tryz.prog w=.ok (.slice (some ⟨w.heap.size,0,none⟩) 1 1) (w.alloc (.cells [Value.int .i64 k,.int .i64 n,.int .i64 p,.string s,.slice la L lc,.slice aa N ac].toArray 33)):=by kernel_rfl
theorem run_raw2 (k n p:Int) (s:ByteArray) (la aa:Option Addr) (L lc N ac:Nat) (k' n' p':Int) (s':ByteArray) (la' aa':Option Addr) (L' lc' N' ac':Nat) (w:World):(Instr.buildSlice 31 2 #[(0,.agg [Value.int .i64 k,.int .i64 n,.int .i64 p,.string s,.slice la L lc,.slice aa N ac].toArray),(1,.agg [Value.int .i64 k',.int .i64 n',.int .i64 p',.string s',.slice la' L' lc',.slice aa' N' ac'].toArray)]).run Tryz.prog w=.ok (.slice (some ⟨w.heap.size,0,none⟩) 2 2) (w.alloc (.cells ([Value.int .i64 k,.int .i64 n,.int .i64 p,.string s,.slice la L lc,.slice aa N ac]++[Value.int .i64 k',.int .i64 n',.int .i64 p',.string s',.slice la' L' lc',.slice aa' N' ac']).toArray 33)):=by kernel_rfl
theorem run_raw3 (k n p:Int) (s:ByteArray) (la aa:Option Addr) (L lc N ac:Nat) (k' n' p':Int) (s':ByteArray) (la' aa':Option Addr) (L' lc' N' ac':Nat) (k2 n2 p2:Int) (s2:ByteArray) (la2 aa2:Option Addr) (L2 lc2 N2 ac2:Nat) (w:World):(Instr.buildSlice 31 3 #[(0,.agg [Value.int .i64 k,.int .i64 n,.int .i64 p,.string s,.slice la L lc,.slice aa N ac].toArray),(1,.agg [Value.int .i64 k',.int .i64 n',.int .i64 p',.string s',.slice la' L' lc',.slice aa' N' ac'].toArray),(2,.agg [Value.int .i64 k2,.int .i64 n2,.int .i64 p2,.string s2,.slice la2 L2 lc2,.slice aa2 N2 ac2].toArray)]).run Tryz.prog w=.ok (.slice (some ⟨w.heap.size,0,none⟩) 3 3) (w.alloc (.cells ([Value.int .i64 k,.int .i64 n,.int .i64 p,.string s,.slice la L lc,.slice aa N ac]++([Value.int .i64 k',.int .i64 n',.int .i64 p',.string s',.slice la' L' lc',.slice aa' N' ac']++[Value.int .i64 k2,.int .i64 n2,.int .i64 p2,.string s2,.slice la2 L2 lc2,.slice aa2 N2 ac2])).toArray 33)):=by kernel_rfl
theorem RwAt.form {cs:List Value} {t:Rw} (h:RwAt K F w t cs):∃ (k n p:Int) (s:ByteArray) (la aa:Option Addr) (L lc N ac:Nat),cs=[Value.int .i64 k,.int .i64 n,.int .i64 p,.string s,.slice la L lc,.slice aa N ac]:=by
 obtain ⟨lv,av,rfl,h1,h2⟩:=h.open;obtain ⟨la,lc,rfl⟩:=h1.slice;obtain ⟨aa,ac,rfl⟩:=h2.slice;exact ⟨_,_,_,_,_,_,_,_,_,_,rfl⟩
theorem run_args1 (h1:RwAt K F w t1 c1) (w':World):(Instr.buildSlice 31 1 #[(0,.agg c1.toArray)]).run Tryz.prog w'=.ok (.slice (some ⟨w'.heap.size,0,none⟩) 1 1) (w'.alloc (.cells c1.toArray 33)):=by
 obtain ⟨_,_,_,_,_,_,_,_,_,_,rfl⟩:=h1.form;exact run_raw1 _ _ _ _ _ _ _ _ _ _ _
theorem run_args2 (h1:RwAt K F w t1 c1) (h2:RwAt K F w t2 c2) (w':World):(Instr.buildSlice 31 2 #[(0,.agg c1.toArray),(1,.agg c2.toArray)]).run Tryz.prog w'=.ok (.slice (some ⟨w'.heap.size,0,none⟩) 2 2) (w'.alloc (.cells (c1++c2).toArray 33)):=by
 obtain ⟨_,_,_,_,_,_,_,_,_,_,rfl⟩:=h1.form;obtain ⟨_,_,_,_,_,_,_,_,_,_,rfl⟩:=h2.form;exact run_raw2 _ _ _ _ _ _ _ _ _ _ _ _ _ _ _ _ _ _ _ _ _
theorem run_args3 (h1:RwAt K F w t1 c1) (h2:RwAt K F w t2 c2) (h3:RwAt K F w t3 c3) (w':World):(Instr.buildSlice 31 3 #[(0,.agg c1.toArray),(1,.agg c2.toArray),(2,.agg c3.toArray)]).run Tryz.prog w'=.ok (.slice (some ⟨w'.heap.size,0,none⟩) 3 3) (w'.alloc (.cells (c1++(c2++c3)).toArray 33)):=by
 obtain ⟨_,_,_,_,_,_,_,_,_,_,rfl⟩:=h1.form;obtain ⟨_,_,_,_,_,_,_,_,_,_,rfl⟩:=h2.form;obtain ⟨_,_,_,_,_,_,_,_,_,_,rfl⟩:=h3.form;exact run_raw3 _ _ _ _ _ _ _ _ _ _ _ _ _ _ _ _ _ _ _ _ _ _ _ _ _ _ _ _ _ _ _
end
def RRw (K:Nat→Nat) (t:Rw) (v:Value) (w w':World):Prop:=∃ cs,v=.agg cs.toArray∧RwAt K (List.range w.heap.size) w' t cs
theorem RwAt.fin {K:Nat→Nat} {B:Nat} {w w':World} {t:Rw} {cs:List Value} (h:RwAt K (List.range (B+1)) w t cs) (hu:Upd B w w'):RwAt K (List.range B) w' t cs:=(h.updS hu (Nat.lt_succ_self B)).range (Nat.le_succ B)
theorem range_no {B z:Nat} (h:B<z):z∉List.range (B+1):=fun hc=>by have:=List.mem_range.1 hc;omega
end Go.Proofs.YtmceocgddaaohaaGreatDoor
