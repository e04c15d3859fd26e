import Derived.Test.YtmceocgddaaohaaGreatDoorQCodJ
namespace Go.Proofs.YtmceocgddaaohaaGreatDoor
open Go Go.RowKit
set_option maxRecDepth 100000
structure DcForm (d:Dc) (cs tc vc:List Value) (cv:Value):Prop where
 e:cs=[.int .i64 d.kind,.int .i64 d.params,strT d.name]++(tc++(vc++[.int .i64 d.fixed,cv]))
 t5:tc.length=5
 v5:vc.length=5
theorem DcForm.len {d:Dc} {cs tc vc:List Value} {cv:Value} (h:DcForm d cs tc vc cv):cs.length=15:=by
 rw [h.e]
 simp [h.t5,h.v5]
theorem DcForm.open {d:Dc} {cs tc vc:List Value} {cv:Value} (h:DcForm d cs tc vc cv):∃ a b c x y a' b' c' x' y',tc=[a,b,c,x,y]∧vc=[a',b',c',x',y']∧cs=[.int .i64 d.kind,.int .i64 d.params,strT d.name,a,b,c,x,y,a',b',c',x',y',.int .i64 d.fixed,cv]:=by
 have h5:=h.t5;have v5:=h.v5
 match tc,h5,vc,v5,h.e with
 |[a,b,c,x,y],_,[a',b',c',x',y'],_,e=>exact ⟨a,b,c,x,y,a',b',c',x',y',rfl,rfl,e⟩
section
variable {d:Dc} {cs tc vc:List Value} {cv:Value} {w:World} {q:Nat} {t:TypeId}
theorem DcForm.k (h:DcForm d cs tc vc cv) (hb:Blk w q t cs):w.cell? ⟨q,0,none⟩=some (.int .i64 d.kind):=hb.cell (by rw [h.e];rfl)
theorem DcForm.p (h:DcForm d cs tc vc cv) (hb:Blk w q t cs):w.cell? ⟨q,1,none⟩=some (.int .i64 d.params):=hb.cell (by rw [h.e];rfl)
theorem DcForm.n (h:DcForm d cs tc vc cv) (hb:Blk w q t cs):w.cell? ⟨q,2,none⟩=some (strT d.name):=hb.cell (by rw [h.e];rfl)
theorem DcForm.f (h:DcForm d cs tc vc cv) (hb:Blk w q t cs):w.cell? ⟨q,13,none⟩=some (.int .i64 d.fixed):=by
 obtain ⟨_,_,_,_,_,_,_,_,_,_,-,-,e⟩:=h.open;exact hb.cell (by rw [e];rfl)
theorem DcForm.c (h:DcForm d cs tc vc cv) (hb:Blk w q t cs):w.cell? ⟨q,14,none⟩=some cv:=by
 obtain ⟨_,_,_,_,_,_,_,_,_,_,-,-,e⟩:=h.open;exact hb.cell (by rw [e];rfl)
theorem mid_range {p m s:List Value} {o:Nat} (hb:Blk w q t (p++(m++s))) (ho:p.length=o):w.rangeAt q o m:=fun j u hj=>by
 subst ho;refine hb.cell ?_;rw [List.getElem?_append_right (by omega),show p.length+j-p.length=j by omega,List.getElem?_append_left (List.getElem?_eq_some_iff.1 hj).1];exact hj
theorem DcForm.tr (h:DcForm d cs tc vc cv) (hb:Blk w q t cs):w.rangeAt q 3 tc:=mid_range (by rw [h.e] at hb;exact hb) rfl
theorem DcForm.vr (h:DcForm d cs tc vc cv) (hb:Blk w q t cs):w.rangeAt q 8 vc:=by
 rw [h.e,← List.append_assoc] at hb;exact mid_range hb (by simp [h.t5])
end
def CtsAt (F:List Nat) (w:World) (cs:List (List UInt8 × Tm)) (v:Value):Prop:=
 ∃ a cap,v=.slice a cs.length cap∧cs.length≤cap∧(0<cs.length→∃ pb po,a=some ⟨pb,po,none⟩∧pb∉F∧pb<w.heap.size∧∀ (i:Nat) (c:List UInt8 × Tm),cs[i]?=some c→∃ xs,w.rangeAt pb (po+6*i) (strT c.1::xs)∧TmAt F w c.2 xs)
theorem CtsAt.nil (F:List Nat) (w:World) (a:Option Addr) (c:Nat):CtsAt F w [] (.slice a 0 c):=⟨a,c,rfl,Nat.zero_le _,fun h=>absurd h (by simp)⟩
theorem CtsAt.step {F F':List Nat} {w w':World} {cs:List (List UInt8 × Tm)} {v:Value} (h:CtsAt F w cs v) (hs:Step F w F' w'):CtsAt F' w' cs v:=by
 obtain ⟨a,cap,h1,h2,h3⟩:=h;refine ⟨a,cap,h1,h2,fun hp=>?_⟩
 obtain ⟨pb,po,e,hF,hb,hr⟩:=h3 hp;refine ⟨pb,po,e,hs.off hb hF,Nat.lt_of_lt_of_le hb hs.size,fun i c hi=>?_⟩
 obtain ⟨xs,g1,g2⟩:=hr i c hi;exact ⟨xs,hs.range hb hF g1,TmAt.step hs _ _ g2⟩
theorem CtsAt.sub {F G:List Nat} {w:World} {cs:List (List UInt8 × Tm)} {v:Value} (h:CtsAt F w cs v) (hG:∀ k∈G,k∈F∨w.heap.size≤k):CtsAt G w cs v:=by
 obtain ⟨a,cap,h1,h2,h3⟩:=h;refine ⟨a,cap,h1,h2,fun hp=>?_⟩
 obtain ⟨pb,po,e,hF,hb,hr⟩:=h3 hp;refine ⟨pb,po,e,fun hc=>by rcases hG pb hc with h|h;exact hF h;omega,hb,fun i c hi=>?_⟩
 obtain ⟨xs,g1,g2⟩:=hr i c hi;exact ⟨xs,g1,TmAt.sub hG _ _ g2⟩
theorem CtsAt.below {F:List Nat} {w w':World} {cs:List (List UInt8 × Tm)} {v:Value} (h:CtsAt F w cs v) (hb:Below w.heap.size w w'):CtsAt F w' cs v:=h.step (Step.of_below hb (Nat.le_refl _))
theorem CtsAt.slice {F:List Nat} {w:World} {cs:List (List UInt8 × Tm)} {v:Value} (h:CtsAt F w cs v):∃ a cap,v=.slice a cs.length cap:=by
 obtain ⟨a,cap,h1,-⟩:=h;exact ⟨a,cap,h1⟩
theorem CtsAt.get {F:List Nat} {w:World} {cs:List (List UInt8 × Tm)} {a:Option Addr} {n c:Nat} (h:CtsAt F w cs (.slice a n c)) (hn:cs.length=n) {i:Nat} (hi:i<n):∃ x pb po xs,cs[i]?=some x∧x∈cs∧a=some ⟨pb,po,none⟩∧pb∉F∧pb<w.heap.size∧w.rangeAt pb (po+6*i) (strT x.1::xs)∧TmAt F w x.2 xs:=by
 obtain ⟨a',cap,h1,h2,h3⟩:=h
 injection h1 with e1 e2 e3
 subst e1;obtain ⟨pb,po,e,hF,hb,hr⟩:=h3 (by omega);have hx:cs[i]?=some (cs[i]'(by omega)):=List.getElem?_eq_getElem (by omega);obtain ⟨xs,g1,g2⟩:=hr i _ hx;exact ⟨_,pb,po,xs,hx,List.getElem_mem _,e,hF,hb,g1,g2⟩
def DcAt (F:List Nat) (w:World) (d:Dc) (cs:List Value):Prop:=∃ tc vc cv,DcForm d cs tc vc cv∧TmAt F w d.ty tc∧TmAt F w d.val vc∧CtsAt F w d.ctors cv
theorem DcAt.step {F F':List Nat} {w w':World} {d:Dc} {cs:List Value} (h:DcAt F w d cs) (hs:Step F w F' w'):DcAt F' w' d cs:=by
 obtain ⟨tc,vc,cv,h1,h2,h3,h4⟩:=h;exact ⟨tc,vc,cv,h1,TmAt.step hs _ _ h2,TmAt.step hs _ _ h3,h4.step hs⟩
theorem DcAt.sub {F G:List Nat} {w:World} {d:Dc} {cs:List Value} (h:DcAt F w d cs) (hG:∀ k∈G,k∈F∨w.heap.size≤k):DcAt G w d cs:=by
 obtain ⟨tc,vc,cv,h1,h2,h3,h4⟩:=h;exact ⟨tc,vc,cv,h1,TmAt.sub hG _ _ h2,TmAt.sub hG _ _ h3,h4.sub hG⟩
theorem DcAt.below {F:List Nat} {w w':World} {d:Dc} {cs:List Value} (h:DcAt F w d cs) (hb:Below w.heap.size w w'):DcAt F w' d cs:=h.step (Step.of_below hb (Nat.le_refl _))
theorem DcAt.len {F:List Nat} {w:World} {d:Dc} {cs:List Value} (h:DcAt F w d cs):cs.length=15:=by
 obtain ⟨tc,vc,cv,h1,-⟩:=h;exact h1.len
theorem DcAt.one {F:List Nat} {w:World} {d:Dc} {cs:List Value} (h:DcAt F w d cs):∀ u∈cs,u.oneCell'=true:=by
 obtain ⟨tc,vc,cv,h1,h2,h3,h4⟩:=h;obtain ⟨a,c,rfl⟩:=h4.slice;intro u hu;rw [h1.e] at hu;rcases List.mem_append.1 hu with hu|hu
 ·simp only [List.mem_cons,List.not_mem_nil,or_false] at hu
  rcases hu with rfl|rfl|rfl<;>rfl
 ·rcases List.mem_append.1 hu with hu|hu
  ·exact h2.one u hu
  ·rcases List.mem_append.1 hu with hu|hu
   ·exact h3.one u hu
   ·simp only [List.mem_cons,List.not_mem_nil,or_false] at hu
    rcases hu with rfl|rfl<;>rfl
theorem dcSize {cs:List Value} (h:cs.length=15):(Tryz.prog.info? 46).map (·.size)=some cs.length:=by rw [h];kernel_rfl
theorem ctSizeC {cs:List Value} (h:cs.length=6):(Tryz.prog.info? 56).map (·.size)=some cs.length:=by rw [h];kernel_rfl
def DcsAt (F:List Nat) (w:World) (ds:List Dc) (v:Value):Prop:=
 ∃ a cap,v=.slice a ds.length cap∧ds.length≤cap∧(0<ds.length→∃ pb po,a=some ⟨pb,po,none⟩∧pb∉F∧pb<w.heap.size∧∀ (i:Nat) (d:Dc),ds[i]?=some d→∃ cs,w.rangeAt pb (po+15*i) cs∧DcAt F w d cs)
theorem DcsAt.nil (F:List Nat) (w:World) (a:Option Addr) (c:Nat):DcsAt F w [] (.slice a 0 c):=⟨a,c,rfl,Nat.zero_le _,fun h=>absurd h (by simp)⟩
theorem DcsAt.sub {F G:List Nat} {w:World} {ds:List Dc} {v:Value} (h:DcsAt F w ds v) (hG:∀ k∈G,k∈F∨w.heap.size≤k):DcsAt G w ds v:=by
 obtain ⟨a,cap,h1,h2,h3⟩:=h;refine ⟨a,cap,h1,h2,fun hp=>?_⟩
 obtain ⟨pb,po,e,hF,hb,hr⟩:=h3 hp;refine ⟨pb,po,e,fun hc=>by rcases hG pb hc with h|h;exact hF h;omega,hb,fun i c hi=>?_⟩
 obtain ⟨xs,g1,g2⟩:=hr i c hi;exact ⟨xs,g1,g2.sub hG⟩
theorem DcsAt.slice {F:List Nat} {w:World} {ds:List Dc} {v:Value} (h:DcsAt F w ds v):∃ a cap,v=.slice a ds.length cap:=by
 obtain ⟨a,cap,h1,-⟩:=h;exact ⟨a,cap,h1⟩
theorem DcsAt.get {F:List Nat} {w:World} {ds:List Dc} {a:Option Addr} {n c:Nat} (h:DcsAt F w ds (.slice a n c)) (hn:ds.length=n) {i:Nat} (hi:i<n):∃ x pb po cs,ds[i]?=some x∧x∈ds∧a=some ⟨pb,po,none⟩∧pb∉F∧pb<w.heap.size∧w.rangeAt pb (po+15*i) cs∧DcAt F w x cs:=by
 obtain ⟨a',cap,h1,h2,h3⟩:=h
 injection h1 with e1 e2 e3
 subst e1;obtain ⟨pb,po,e,hF,hb,hr⟩:=h3 (by omega);have hx:ds[i]?=some (ds[i]'(by omega)):=List.getElem?_eq_getElem (by omega);obtain ⟨xs,g1,g2⟩:=hr i _ hx;exact ⟨_,pb,po,xs,hx,List.getElem_mem _,e,hF,hb,g1,g2⟩
structure SmD (d:Dc):Prop where
 name:d.name.length≤reachBytes
 ty:SmT d.ty
 val:SmT d.val
 num:d.ctors.length*96≤reachBytes
 ctors:∀ c∈d.ctors,c.1.length≤reachBytes∧SmT c.2
theorem elemCts:Tryz.prog.underlying 44=some (.slice (Tryz.prog.elem 44)):=by kernel_rfl
theorem elemDcs:Tryz.prog.underlying 40=some (.slice (Tryz.prog.elem 40)):=by kernel_rfl
theorem run_at_ct (B off n cap m:Nat) (hm:m<n) (w:World):(Instr.indexAt 44 (.slice (some ⟨B,off,none⟩) n cap) (.int .i64 (m:Int))).run Tryz.prog w=.ok (.pointer (some ⟨B,off+6*m,none⟩)) w:=by
 rw [run_indexAt_slice w 44 _ _ _ _ _ elemCts];have hz:(sizeOf (Tryz.prog.elem 44)).run Tryz.prog w=.ok 6 w:=(by kernel_rfl);rw [if_pos (by omega),hz,Result.andThen_ok,Addr.add_mid,Int.toNat_natCast,Nat.mul_comm]
theorem run_at_dc (B off n cap m:Nat) (hm:m<n) (w:World):(Instr.indexAt 40 (.slice (some ⟨B,off,none⟩) n cap) (.int .i64 (m:Int))).run Tryz.prog w=.ok (.pointer (some ⟨B,off+15*m,none⟩)) w:=by
 rw [run_indexAt_slice w 40 _ _ _ _ _ elemDcs];have hz:(sizeOf (Tryz.prog.elem 40)).run Tryz.prog w=.ok 15 w:=(by kernel_rfl);rw [if_pos (by omega),hz,Result.andThen_ok,Addr.add_mid,Int.toNat_natCast,Nat.mul_comm]
theorem ct_name {w:World} {b o:Nat} {s:List UInt8} {xs:List Value} (h:w.rangeAt b o (strT s::xs)):w.cell? ⟨b,o,none⟩=some (strT s):=by
 have:=h 0 (strT s) rfl
 rwa [Nat.add_zero] at this
theorem ct_type {w:World} {b o:Nat} {s:List UInt8} {xs:List Value} (h:w.rangeAt b o (strT s::xs)):w.rangeAt b (o+1) xs:=fun j u hj=>by
 have:=h (j+1) u (by simpa using hj);rw [← Nat.add_assoc] at this
 rwa [Nat.add_right_comm] at this
def zC:List Value:=[strT [],.int .i64 0,.int .i64 0,strT [],.slice none 0 0,.slice none 0 0]
def zD:List Value:=[.int .i64 0,.int .i64 0,strT [],.int .i64 0,.int .i64 0,strT [],.slice none 0 0,.slice none 0 0,.int .i64 0,.int .i64 0,strT [],.slice none 0 0,.slice none 0 0,.int .i64 0,.slice none 0 0]
theorem zeroCtC:(Tryz.prog.info? 56).map (·.zero)=some (some (.agg zC.toArray)):=by kernel_rfl
theorem zeroDc:(Tryz.prog.info? 46).map (·.zero)=some (some (.agg zD.toArray)):=by kernel_rfl
end Go.Proofs.YtmceocgddaaohaaGreatDoor
