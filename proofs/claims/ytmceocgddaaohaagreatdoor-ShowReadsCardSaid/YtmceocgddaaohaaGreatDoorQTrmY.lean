import Derived.Test.YtmceocgddaaohaaGreatDoorQGenT
import Derived.Test.YtmceocgddaaohaaGreatDoorQTrmH
import Derived.Test.YtmceocgddaaohaaGreatDoorQTrmK
namespace Go.Proofs.YtmceocgddaaohaaGreatDoor
open Go Go.RowKit
set_option maxRecDepth 100000
set_option maxHeartbeats 1000000 in
theorem range_two {α : Type} {Q : Exit → Act → World → Prop} {a : Act} {w : World} {g : Operand} {p1 p2 : Tmp} {assign body : Code} (G : List Nat) (w0 u : World) (n gf : Nat) (lb : Array Value) (encs : α → Array Value) (e1 e2 : α → Value) (he : ∀ x, encs x = #[e1 x, e2 x]) (cs : α → List Value) (xs : List α) (hg : a.eval g = .func (.func gf) #[] lb) (hgf : ∀ args w, (callFunc gf args).run Tryz.prog w = .ok (.enter gf args) w)
    (hseq:SeqStopsK Fence.wide 0 Tryz.prog gf lb encs (KeepC G) (fun ys=>ys=xs) (fun p=>p <+: xs) xs.length w) (hk0:KeepC G w0 w) (hu:Below n u w) (hn:n≤w.heap.size)
    (hG:∀ g∈G,g<w.heap.size) (hGn:∀ g∈G,n≤g)
    (I:List α→World→Prop) (Ix:Code→List α→World→Prop) (hI:OwnFrom w.heap.size I) (hIx:∀ c,OwnFrom w.heap.size (Ix c)) (h0:I [] w) (A1:α→Nat→Act)
    (hassign:∀ (l:Nat) (x:α) (W:World) (K:Act→World→Prop),(∀ W',Blk W' W.heap.size 25 (cs x)→Below W.heap.size W W'→K (A1 x W.heap.size) W')→
     assign.wpIn (inR l) 0 Tryz.prog (Exit.then K (fun _ _ _=>False)) { tmps:=(a.tmps.setIfInBounds p1 (e1 x)).setIfInBounds p2 (e2 x),defers:=[] } W)
    (hbody:∀ (l:Nat) (pre:List α) (x:α) (nb:Nat) (W:World),I pre W→w.heap.size≤nb→Blk W nb 25 (cs x)→KeepC G w0 W→Below n u W→n≤W.heap.size→pre.length<xs.length→body.wpIn (inR l) 0 Tryz.prog (postR G I Ix (pre++[x]) W) (A1 x nb) W)
    (hdone:∀ (D:Nat) (W:World),I xs W→w.heap.size≤D→W.heap[D]?=some (.deferred (some []))→Below n u W→Q .normal (Act.marked a D) W)
    (hstop:∀ (D:Nat) (c:Code) (pre:List α) (W:World),pre <+: xs→Ix c pre W→w.heap.size≤D→W.heap[D]?=some (.deferred (some []))→Below n u W→c.wp Tryz.prog Q (Act.marked a D) W) :
    (Code.rangeFunc g #[p1,p2] assign body).wp Tryz.prog Q a w:=by
 refine (wpIn_wide (n:=1)).1 ?_;have keep:∀ {W W':World},Keeps G W W'→KeepsFrom w.heap.size W W':=fun h=>h.from hG
 have hIJ:OwnFrom w.heap.size (fun pre W=>I pre W∧(KeepC G w0 W∧w.heap.size≤W.heap.size)∧Below n u W∧n≤W.heap.size):=fun s A B row h hg2 hr=>
  ⟨hI s A B row h.1 hg2 hr,⟨own_keepC (β:=Unit) w.heap.size G w0 () A B row h.2.1.1 hg2 hr,Nat.le_trans h.2.1.2 hg2.size⟩,own_below (β:=Unit) w.heap.size n u hn () A B row h.2.2 hg2 hr⟩
 have hIxJ:∀ c,OwnFrom w.heap.size (fun pre W=>Ix c pre W∧Below n u W∧n≤W.heap.size):=fun c s A B row h hg2 hr=>
  ⟨hIx c s A B row h.1 hg2 hr,own_below (β:=Unit) w.heap.size n u hn () A B row h.2 hg2 hr⟩
 refine wpIn_rangeFunc_ownH (F:=Fence.wide) (n:=1) (gf:=gf) (lb:=lb) (encs:=encs) (Kp:=KeepC G) (S:=fun ys=>ys=xs) (Sp:=fun p=>p <+: xs) (N:=xs.length) (w0:=w) rfl (Nat.le_refl _) hg trivial
  hgf hseq (fun h k=>h.trans k) (fun W l o o'=>KeepC.put (w:=w) G W l o o') (Below.refl _ _) (fun x=>by rw [he];rfl)
  (fun pre W=>I pre W∧(KeepC G w0 W∧w.heap.size≤W.heap.size)∧Below n u W∧n≤W.heap.size) (fun c pre W=>Ix c pre W∧Below n u W∧n≤W.heap.size) hIJ hIxJ ⟨h0,⟨hk0,Nat.le_refl _⟩,hu,hn⟩
  (fun x a' W=>∃ nb,w.heap.size≤nb∧Blk W nb 25 (cs x)∧a'=A1 x nb) (fun x a' s A B row h hg2 hr=>by
   obtain ⟨nb,e1,e2,e3⟩:=h;exact ⟨nb,e1,own_blk_any (β:=Unit) w.heap.size nb 25 (cs x) () A B row e2 hg2 hr,e3⟩) ?_ ?_ ?_ ?_
 ·intro l pre x W K ⟨hi,⟨hkc,hwW⟩,hb,hnW⟩ hK
  have ez:(#[p1,p2].zip (encs x)).foldl (fun (t:Array Value) (y:Tmp × Value)=>match y with|(p,v)=>t.setIfInBounds p v) a.tmps=(a.tmps.setIfInBounds p1 (e1 x)).setIfInBounds p2 (e2 x):=by
   rw [he]
   simp
  have ha:=hassign l x W K fun W' hnb hbl=>?_
  ·rw [← ez] at ha
   exact ha
  ·refine hK _ _ (keepsFrom_below hbl) (KeepC.of_below hbl) ⟨hI _ _ _ none hi (grown_of_below hbl) (fun r e=>by cases e),⟨hkc.trans (KeepC.of_below hbl),Nat.le_trans hwW hbl.size⟩,hb.trans (hbl.mono hnW),Nat.le_trans hnW hbl.size⟩ ⟨_,hwW,hnb,rfl⟩
 ·rintro l pre x a' W hl hrec ⟨hi,⟨hkc,hwW⟩,hb,hnW⟩ ⟨nb,e1,e2,rfl⟩ hlen
  refine wpIn_mono (hbody l pre x nb W hi e1 e2 hkc hb hnW hlen) fun e a2 W2 h=>?_;have low:Keeps G W W2→Below n u W2:=fun hk=>hk.lower hb hGn hnW
  cases e with
  |normal=>exact ⟨keep h.1,KeepC.of_keeps h.1,h.2,⟨hkc.trans (KeepC.of_keeps h.1),Nat.le_trans hwW h.1.size⟩,low h.1,Nat.le_trans hnW h.1.size⟩
  |ret=>exact ⟨keep h.1,h.2,low h.1,Nat.le_trans hnW h.1.size⟩
  |exit id=>exact ⟨keep h.1,h.2,low h.1,Nat.le_trans hnW h.1.size⟩
  |goto t=>exact h.elim
  |panic c=>exact h.elim
  |outgrown=>exact h.elim
 ·rintro D ys W hD rfl ⟨hi,-,hb,-⟩ hK
  exact hdone D W hi hD hK hb
 ·rintro D c pre W hD hp ⟨hi,hb,-⟩ hK
  exact (wpIn_wide (n:=1)).2 (hstop D c pre W hp hi hD hK hb)
theorem KeepC.more {G F:List Nat} {W W':World} (h:KeepC G W W') (hF:∀ k∈G,k∈F):KeepC F W W':=⟨h.size,fun k o hk ho hc=>h.same k o (fun hg=>hk (hF k hg)) ho hc⟩
theorem own_tmat {β:Type} (B:Nat) (F:List Nat) (t:Tm) (cs:List Value):OwnFrom (β:=β) B (fun _ W=>TmAt F W t cs):=fun s W W' row h hg hr=>by
 have hk:KeepC [] W W':=own_keepC (β:=Unit) B [] W () W W' row (KeepC.refl _ _) hg hr;exact TmAt.keepC (hk.more (fun k h=>by cases h)) t cs h
structure Nt (G:List Nat) (w:World) where
 i:Nat
 t:Tm
 cs:List Value
 at_:TmAt G w t cs
 sm:SmT t
def Nt.enc {G:List Nat} {w:World} (x:Nt G w):Array Value:=#[.int .i64 (x.i:Int),.agg x.cs.toArray]
def backs {G:List Nat} {w:World} (f:Nat→Nt G w) (N j:Nat):List (Nt G w):=(List.range j).map fun j=>f (N-1-j)
theorem backs_succ {G:List Nat} {w:World} (f:Nat→Nt G w) (N j:Nat):backs f N (j+1)=backs f N j++[f (N-1-j)]:=by simp [backs,List.range_succ]
theorem backs_len {G:List Nat} {w:World} (f:Nat→Nt G w) (N j:Nat):(backs f N j).length=j:=by simp [backs]
theorem backs_pre {G:List Nat} {w:World} (f:Nat→Nt G w) (N:Nat) {j n:Nat} (h:j≤n):backs f N j <+: backs f N n:=by
 induction n with
 | zero => obtain rfl : j = 0 := by omega
           exact List.prefix_rfl
 |succ n ih=>
  by_cases e:j=n+1
  ·rw [e]
   exact List.prefix_rfl
  ·rw [backs_succ]
   exact (ih (by omega)).trans (List.prefix_append _ _)
theorem backs_all {G:List Nat} {w:World} (f:Nat→Nt G w) (l:List Tm) (h:∀ i,i<l.length→l[i]?=some (f i).t):((backs f l.length l.length).map (·.t)).reverse=l:=by
 apply List.ext_getElem?
 intro k;by_cases hk:k<l.length
 ·rw [List.getElem?_reverse (by simp [backs];exact hk),h k hk]
  simp only [backs,List.length_map,List.length_range,List.getElem?_map,List.getElem?_range (show l.length-1-k<l.length by omega),Option.map_some];rw [show l.length-1-(l.length-1-k)=k by omega]
 ·rw [List.getElem?_eq_none (by simp [backs];omega),List.getElem?_eq_none (by omega)]
def YieldsB (G:List Nat) (w0:World) (l N:Nat) (J Jx:List (Nt G w0)→World→Prop):Prop:=∀ m pre (x:Nt G w0) W,J pre W→pre.length<N→YieldAt Fence.wide m Tryz.prog l x.enc W fun e W'=>
 (e=.returned (.bool true)∧J (pre++[x]) W'∧KeepC G W W')∨(e=.returned (.bool false)∧Jx (pre++[x]) W')
set_option maxHeartbeats 4000000 in
theorem back1_walk (G : List Nat) (w0 : World) (l bt N ac : Nat) (aa : Option Addr) (f : Nat → Nt G w0) (J Jx : List (Nt G w0) → World → Prop) (hN : N ≤ 2000000000000) (hf : True) (hp : ∀ i, i < N → ∃ pb po, aa = some ⟨pb, po, none⟩ ∧ pb ∉ G ∧ (f i).i = i ∧ w0.rangeAt pb (po + 5 * i) (f i).cs)
    (hY:YieldsB G w0 l N J Jx) (W:World) (hbt:Blk W bt 23 [.slice aa N ac]) (hgb:bt∉G) (hk:KeepC G w0 W) (h0:J [] W) :
    Calls Tryz.prog 70 #[.func (.yield l) #[] #[],.pointer (some ⟨bt,0,none⟩)] W fun e W'=>(∃ v,e=.returned v)∧((∃ ys,ys=backs f N N∧J ys W')∨(∃ pre,pre <+: backs f N N∧Jx pre W')):=by
 obtain ⟨q,hq⟩:∃ q,Hid (W.heap.size=q):=⟨_,rfl⟩;have HF:=hZ hf;have HP:=hZ hp;have YY:=hZ hY;have BT:=hZ hbt;have GB:=hZ hgb;have JJ:=hZ h0;have KK:=hZ hk;have NB:=hZ hN;clear hf hp hY hbt hgb h0 hk
 go_enter Tryz.func70,Tryz.ntmps70
 go_upto_region 0 with (fail);refine lbeg (opsOf Tryz.f70 0) ?_;refine lcl 0 (.slice aa N ac) (some 4) 23 1 (bt) 0 (BT.out.cell rfl) Tryz.underlying23 ?_;refine lnow 1 (.int .i64 (N:Int)) (some 5) ?_;refine lnow 2 (.int .i64 (IntKind.i64.wrap ((N:Int)-1))) (some 6) ?_;rw [show IntKind.i64.wrap ((N:Int)-1)=(N:Int)-1 from IntWalk.i64_in _ (by omega)];refine lnow 3 (.int .i64 ((N:Int)-1)) (some 3) ?_;refine ldq 4 ?_;go_wp2
 go_loopw [3] (fun iv wr=>∃ j:Nat,j≤N∧iv=.int .i64 ((N:Int)-1-j)∧Hid (J (backs f N j) wr)∧Hid (Blk wr bt 23 [.slice aa N ac])∧Hid (KeepC G w0 wr)) (fun iv _=>(intOf iv+1).toNat)
 case atStart=>exact ⟨0,Nat.zero_le _,by simp,JJ,BT,KK⟩
 case round=>
  obtain ⟨j,hj,rfl,JR,BR,KR⟩:=hrel;by_cases hlt:j<N
  rotate_left
  ·have r1:¬ ((N:Int)-1-j≥0):=by omega
   obtain rfl:j=N:=(by omega);go_wp2
   go_end0
   first|exact ⟨⟨_,rfl⟩,.inl ⟨_,rfl,JR.out⟩⟩|exact ⟨⟨_,rfl⟩,.inl JR.out⟩
  have r1:(N:Int)-1-j≥0:=(by omega);obtain ⟨i,hi⟩:∃ i:Nat,Hid (N-1-j=i):=⟨_,rfl⟩;have eji:(N:Int)-1-j=(i:Int):=(by have:=hi.out;omega);have HEJ:=hZ eji;rw [eji] at r1 ⊢;have hiN:i<N:=(by have:=hi.out;omega);obtain ⟨pb,po,haa,hpb,hfi,hcr⟩:=HP.out i hiN;subst haa;have HCR:Hid (wr.rangeAt pb (po+5*i) (f i).cs):=KR.out.range hcr hpb (f i).at_.firm;have X5:=hZ (f i).at_.len;clear hcr eji;have YA:=YY.out 0 (backs f N j) (f i) wr JR.out (by rw [backs_len];exact hlt);unfold Nt.enc at YA;rw [hfi] at YA;obtain ⟨ci,hci⟩:∃ y,Hid ((f i).cs=y):=⟨_,rfl⟩;rw [hci.out] at YA HCR X5;have NXT:Hid (backs f N j++[f i]=backs f N (j+1)):=(by rw [Hid,backs_succ,hi.out]);go_upto_region 3 with (fail);refine fin_begin (opsOf Tryz.f70 3) (by kernel_rfl) ?_;refine fin_now 0 (.func (.yield l) #[] #[]) (some 11) (by kernel_rfl) (by kernel_rfl) (by kernel_rfl) ?_;refine fin_now 1 (.int .i64 (i:Int)) (some 12) (by kernel_rfl) (by kernel_rfl) (by kernel_rfl) ?_;refine fin_now 2 (.slice (some ⟨pb,po,none⟩) N ac) (some 13) (by kernel_rfl) (by kernel_rfl) (exec_load_cell 23 (.tmp 1) (by kernel_rfl) (bt) 0 (by kernel_rfl) _ (BR.out.cell rfl) _ Tryz.underlying23 rfl) ?_;refine fin_now 3 (.int .i64 (i:Int)) (some 14) (by kernel_rfl) (by kernel_rfl) (by kernel_rfl) ?_
  refine fin_now 4 (.pointer (some ⟨pb,po+5*i,none⟩)) (some 15) (by kernel_rfl) (by kernel_rfl) (exec_indexAt 23 (.tmp 13) (.tmp 14) (by kernel_rfl) _ _ _ (by kernel_rfl) (by kernel_rfl) (run_at_tm pb po N ac i hiN _)) ?_;refine fin_now 5 (.agg ci.toArray) (some 16) (by kernel_rfl) (by kernel_rfl) (exec_load_mid 25 (.tmp 15) (by kernel_rfl) pb (po+5*i) (by kernel_rfl) ci _ HCR.out Tryz.underlying25 rfl (t5Size X5.out)) ?_;refine fin_yield 6 0 l #[.int .i64 (i:Int),.agg ci.toArray] (some 17) _ (by kernel_rfl) (by kernel_rfl) (fun fn tmps assign body h=>(congrArg (fun z:Sem Next=>z.run Tryz.prog wr) (show execOp _ _=Instr.yield l #[.int .i64 (i:Int),.agg ci.toArray] by kernel_rfl)).trans h) YA ?_;rintro e w2 (⟨rfl,hJ2,hk2⟩|⟨rfl,hx2⟩)
  rotate_left
  ·refine ⟨_,rfl,?_⟩
   refine fin_now 7 (.bool true) (some 18) (by kernel_rfl) (by kernel_rfl) (by kernel_rfl) ?_;refine fin_done 8 (by kernel_rfl) ?_;generalize hact:Act.put _ (some 18) _=act;simp only [Act.put,sA,sC,sZ] at hact;subst hact;go_wp2;refine bodyPost_ret (results_none rfl _ _ _) rfl ?_;exact ⟨⟨_,rfl⟩,.inr ⟨backs f N (j+1),backs_pre f N (by omega),by rw [← NXT.out];exact hx2⟩⟩
  refine ⟨_,rfl,?_⟩;refine fin_now 7 (.bool false) (some 18) (by kernel_rfl) (by kernel_rfl) (by kernel_rfl) ?_;refine fin_done 8 (by kernel_rfl) ?_;generalize hact:Act.put _ (some 18) _=act;simp only [Act.put,sA,sC,sZ] at hact;subst hact;have NJ:Hid (J (backs f N (j+1)) w2):=(by rw [Hid,← NXT.out];exact hJ2);have NBT:Hid (Blk w2 bt 23 [.slice (some ⟨pb,po,none⟩) N ac]):=hk2.blk BR.out GB.out;have NK:Hid (KeepC G w0 w2):=KR.out.trans hk2;clear hJ2 hk2 YA JR BR KR HCR;have hjj:=HEJ.out;have bl:=NB.out;go_wp2;go_roundw
  case rel=>exact ⟨j+1,by omega,by go_num,NJ,NBT,NK⟩
  case measure=>simp [intOf]<;>omega
theorem back_walk (aa:Option Addr) (N ac:Nat) (w:World):Calls Tryz.prog 42 #[.slice aa N ac] w fun e w'=>e=.returned (.func (.func 70) #[] #[.pointer (some ⟨w.heap.size,0,none⟩)])∧Blk w' w.heap.size 23 [.slice aa N ac]∧Below w.heap.size w w'∧Hid (w'.heap.size=w.heap.size+1):=by
 obtain ⟨q,hq⟩:∃ q,Hid (w.heap.size=q):=⟨_,rfl⟩;rw [hq.out]
 go_enter Tryz.func42,Tryz.ntmps42
 go_upto_region 0 with (fail);refine lbeg (opsOf Tryz.f42 0) ?_;refine lin_box1 0 23 (.tmp 0) (.slice aa N ac) (q) (some 1) (by kernel_rfl) (by kernel_rfl) (by kernel_rfl) (by kernel_rfl) (by rfl) hq ?_;intro w1 bw1 bew1 hsw1;refine lnow 1 (.nilFunc) (some 2) ?_;refine ldq 2 ?_;go_upto_region 1 with (fail);refine lbeg (opsOf Tryz.f42 1) ?_;refine lnow 0 (.func (.func 70) #[] #[.pointer (some ⟨q,0,none⟩)]) (some 3) ?_;refine lnow 1 (.func (.func 70) #[] #[.pointer (some ⟨q,0,none⟩)]) (some 2) ?_;refine ldq 2 ?_;go_wp2;go_ret;exact ⟨rfl,bw1,bew1,hsw1⟩
theorem back_stops (G : List Nat) (w0 : World) (l : List Tm) (aa : Option Addr) (N ac : Nat) (hl : TmsAt G w0 l (.slice aa N ac)) (hN : l.length = N) (hs : SmTs l) (hb : N ≤ 2000000000000) :
    ∃ xs:List (Nt G w0),(xs.map (·.t)).reverse=l∧∀ (w:World) (bt:Nat),Blk w bt 23 [.slice aa N ac]→bt∉G→KeepC G w0 w→SeqStopsK Fence.wide 0 Tryz.prog 70 #[.pointer (some ⟨bt,0,none⟩)] Nt.enc (KeepC G) (fun ys=>ys=xs) (fun p=>p <+: xs) xs.length w:=by
 have each:∀ i:Nat,∃ x:Nt G w0,i<N→l[i]?=some x.t∧x.i=i∧∃ pb po,aa=some ⟨pb,po,none⟩∧pb∉G∧w0.rangeAt pb (po+5*i) x.cs:=fun i=>by
  by_cases hi:i<N
  ·obtain ⟨t,pb,po,cs,h1,h2,h3,h4,-,-,h5,h6⟩:=hl.get hN hi
   exact ⟨⟨i,t,cs,h6,SmTs.mem hs h2⟩,fun _=>⟨h1,rfl,pb,po,h3,h4,h5⟩⟩
  ·refine ⟨⟨0,.mk 0 0 [] [] [],[.int .i64 0,.int .i64 0,strT [],.slice none 0 0,.slice none 0 0],TmAt.mk (t:=.mk 0 0 [] [] []) (LvsOff.nil _ _ _ _) (TmsAt.nil _ _ _ _),by simp [SmT,SmTs]⟩,fun h=>absurd h hi⟩
 obtain ⟨f,hf⟩:=Classical.axiomOfChoice each;refine ⟨backs f N N,by subst hN;exact backs_all f l fun i hi=>(hf i hi).1,fun w bt hbt hg hk L J Jx W hW hJ hJx hY h0=>?_⟩
 refine callsIn_wide.2 (back1_walk G w0 L bt N ac aa f J Jx hb trivial (fun i hi=>by
  obtain ⟨-,h2,pb,po,h3,h4,h5⟩:=hf i hi;exact ⟨pb,po,h3,h4,h2,h5⟩) ?_ W (hbt.below hW hbt.lt) hg (hk.trans ⟨hW.size,fun k o _ ho _=>(hW.block k (Array.getElem?_eq_some_iff.1 ho).1).trans ho⟩) h0)
 intro m pre x W1 hJ1 hl2;obtain ⟨fn,tmps,assign,body,hy,hR⟩:=hY pre x W1 hJ1 (by rw [backs_len];exact hl2);exact ⟨fn,tmps,assign,body,hy,⟨trivial,fun c cs _=>hR.2 c cs (room_wide _)⟩⟩
set_option maxHeartbeats 8000000 in
theorem bind_walk {F:List Nat} (k:Int) (f:Tm) (l:List Tm) (fc:List Value) (lv:Value) (w:World) (hf:TmAt F w f fc) (hfs:SmT f) (hl:TmsAt F w l lv) (ss:SmTs l) (sa:l.length*80≤140737488351232):Calls Tryz.prog 18 #[.int .i64 k,.agg fc.toArray,lv] w (NewTm (bindT k f l) w):=by
 obtain ⟨aa,ac,rfl⟩:=hl.slice;obtain ⟨N,hAN⟩:∃ N,Hid (l.length=N):=⟨_,rfl⟩;rw [hAN.out] at hl sa ⊢;have H2:=hZ hl;have SS:=hZ ss;have SA:=hZ sa;have FC5:=hZ hf.len;have HF:=hZ hf;have HFS:=hZ hfs;obtain ⟨q,hq⟩:∃ q,Hid (w.heap.size=q):=⟨_,rfl⟩;unfold NewTm;rw [hq.out];clear hl ss sa hf hfs;refine calls_of_marks Tryz.func18 rfl ?_;simp only [Tryz.ntmps18,List.size_toArray,List.length_cons,List.length_nil,Nat.reduceAdd,Nat.reduceSub,Array.replicate_succ,Array.replicate_zero,List.push_toArray,List.append_toArray,List.nil_append,List.cons_append];go_upto_region 0 with (fail);refine lbeg (opsOf Tryz.f18 0) ?_;refine lin_box1 0 3 (.tmp 0) (.int .i64 k) (q) (some 3) (by kernel_rfl) (by kernel_rfl) (by kernel_rfl) (by kernel_rfl) (by rfl) hq ?_;intro w1 bw1 bew1 hsw1;refine lbox 1 25 (.tmp 1) (fc) (q+1) (some 4) hsw1 ?_;intro w2 bw2 bew2 hsw2;refine lall 2 25 z5T (q+1+1) (some 6) hsw2 ?_;intro w3 bw3 bew3 hsw3;refine ldq 3 ?_;have B0:Hid (IntAt w3 q k):=(bw1.below bew2 (by omega)).below bew3 (by omega);have B1:Hid (Blk w3 (q+1) 25 fc):=bw2.below bew3 (by omega);have B2:Hid (Blk w3 (q+2) 25 z5T):=bw3;have BE:Hid (Below q w w3):=(bew1.trans (bew2.mono (by omega))).trans (bew3.mono (by omega));have S3:Hid (w3.heap.size=q+3):=hsw3;clear bw1 bew1 hsw1 bw2 bew2 hsw2 bw3 bew3 hsw3;go_upto_region 1 with (fail);refine lbeg (opsOf Tryz.f18 1) ?_
 refine lrl 0 (fc) (some 10) 25 4 (q+1) 0 (B1.out).whole Tryz.underlying25 (t5Size FC5.out) ?_;refine lcal 1 41 #[.agg fc.toArray] (some 11) _ (clone_walk f fc w3 F (HF.out.step (Step.of_below BE.out (by have:=hq.out;omega))) HFS.out) ?_;rintro e w4 ⟨cr,rfl,hcr4,hb4⟩;refine ⟨_,rfl,?_⟩;rw [S3.out] at hcr4;obtain ⟨q3,hq3⟩:∃ y,Hid (w4.heap.size=y):=⟨_,rfl⟩;refine lall 2 25 z5T (q3) (some 7) hq3 ?_;intro w5 bw5 bew5 hsw5;refine lput 3 25 (.tmp 7) (.tmp 11) (q3) _ (z5T) (cr) bw5 (hcr4.len.trans (rfl:z5T.length=5).symm) (t5Size hcr4.len) (by simpa using hcr4.one) ?_;intro w6 bw6 uw6;refine ldq 4 ?_;have Q3:Hid (q+3≤q3):=(by have:=hb4.size;have:=S3.out;have:=hq3.out;rw [Hid];omega);have Q3o:=Q3.out;have kp:Below q3 w4 w6:=uw6.below bew5 (Nat.le_refl _) (by have:=bew5.size;have:=hq3.out;omega);have E0:Hid (IntAt w6 q k):=(B0.out.below hb4 B0.out.lt).below kp (by omega);have E2:Hid (Blk w6 (q+2) 25 z5T):=(B2.out.below hb4 B2.out.lt).below kp (by omega);have E3:Hid (Blk w6 q3 25 cr):=bw6;have ET:Hid (TmAt (List.range (q+3)++[q3]) w6 f cr):=TmAt.below (TmAt.sub (fun k hk=>(List.mem_append.1 hk).imp id (fun h=>by have:=hq3.out;simp at h;omega)) f cr hcr4) (by rw [hq3.out];exact kp)
 have EE:Hid (Below q w w6):=BE.out.trans ((hb4.mono (by have:=S3.out;omega)).trans (kp.mono (by omega)));have S6:Hid (q3<w6.heap.size):=bw6.lt;clear hcr4 hb4 bw5 bew5 hsw5 bw6 uw6 kp B0 B1 B2 BE S3;go_upto_region 2 with (fail);refine lbeg (opsOf Tryz.f18 2) ?_;refine lnow 0 (.slice aa N ac) (some 12) ?_;refine lcal 1 42 #[.slice aa N ac] (some 13) _ (back_walk aa N ac w6) ?_;rintro e w7 ⟨rfl,hb7,hbe7,hs7⟩;refine ⟨_,rfl,?_⟩;refine ldq 2 ?_;obtain ⟨bt,hbt⟩:∃ bt,Hid (w6.heap.size=bt):=⟨_,rfl⟩;rw [hbt.out] at hb7 hbe7 hs7 S6 ⊢;have S6o:=S6.out;have L7:Hid (q3+1≤w7.heap.size):=(by have:=hs7.out;rw [Hid];omega);have C0:Hid (IntAt w7 q k):=E0.out.below hbe7 (by omega);have C2:Hid (Blk w7 (q+2) 25 z5T):=E2.out.below hbe7 (by omega);have C3:Hid (Blk w7 q3 25 cr):=E3.out.below hbe7 (by omega);have CT:Hid (TmAt (List.range (q+3)++[q3]) w7 f cr):=TmAt.below ET.out (by rw [hbt.out];exact hbe7);have CE:Hid (Below q w w7):=EE.out.trans (hbe7.mono (by omega));have BB:=hZ hb7;obtain ⟨xs,hxs,hstops⟩:=back_stops [q3] w l aa N ac (TmsAt.sub (fun k hk=>.inr (by simp at hk;have:=hq.out;omega)) l _ H2.out) hAN.out SS.out (by have:=SA.out;omega)
 have XS:=hZ hxs;have STOPS:=hZ (hstops w7 bt BB.out (by simp;omega) (KeepC.of_below (by rw [hq.out];exact CE.out)));have KC:Hid (KeepC [q3] w w7):=KeepC.of_below (by rw [hq.out];exact CE.out);clear hb7 hbe7 hs7 S6 S6o E0 E2 E3 ET EE hxs hstops;go_wp2;refine range_two [q3] w w q 70 #[.pointer (some ⟨bt,0,none⟩)] Nt.enc (fun x=>.int .i64 (x.i:Int)) (fun x=>.agg x.cs.toArray) (fun _=>rfl) (fun x=>x.cs) xs (by kernel_rfl) (enters_of Tryz.func70 (by kernel_rfl) rfl) STOPS.out KC.out CE.out (by have:=L7.out;omega) (fun g hg=>by simp at hg;have:=L7.out;omega) (fun g hg=>by simp at hg;omega)
  (fun pre W=>∃ cr,Blk W q3 25 cr∧TmAt (List.range (q+3)++[q3]) W (bindT k f (pre.map (·.t)).reverse) cr∧IntAt W q k∧Blk W (q+2) 25 z5T∧q3<W.heap.size) (fun _ _ _=>False)
  (fun s A B row h hg hr=>by obtain ⟨cr,h1,h2,h3,h4,h5⟩:=h;exact ⟨cr,own_blk_any (β:=Unit) _ _ _ _ () A B row h1 hg hr,own_tmat (β:=Unit) _ _ _ _ () A B row h2 hg hr,own_blk_any (β:=Unit) _ _ _ _ () A B row h3 hg hr,own_blk_any (β:=Unit) _ _ _ _ () A B row h4 hg hr,Nat.lt_of_lt_of_le h5 hg.size⟩) (fun c s A B row h hg hr=>h)
  ⟨cr,C3.out,CT.out,C0.out,C2.out,by have:=L7.out;omega⟩ (fun x nb=>{ tmps:=#[.int .i64 k,.agg fc.toArray,.slice aa N ac,.pointer (some ⟨q,0,none⟩),.pointer (some ⟨q+1,0,none⟩),undef,.pointer (some ⟨q+1+1,0,none⟩),.pointer (some ⟨q3,0,none⟩),undef,.pointer (some ⟨nb,0,none⟩),.agg fc.toArray,.agg cr.toArray,.slice aa N ac,.func (.func 70) #[] #[.pointer (some ⟨bt,0,none⟩)],.int .i64 (x.i:Int),.agg x.cs.toArray,undef,undef,undef,undef,undef,undef,undef],defers:=[] }) ?_ ?_ ?_ ?_
 ·intro l x W K hK
  obtain ⟨q2,hq2⟩:∃ q2,Hid (W.heap.size=q2):=⟨_,rfl⟩;rw [hq2.out] at hK;refine rin_lin (opsOf Tryz.f18 3) (by kernel_rfl) (by kernel_rfl) (fun ⟨_,_,h⟩=>h) ?_;refine lall 0 25 z5T (q2) (some 9) hq2 ?_;intro wa bwa bewa hswa;refine lput 1 25 (.tmp 9) (.tmp 15) (q2) _ (z5T) (x.cs) bwa (x.at_.len.trans (rfl:z5T.length=5).symm) (t5Size x.at_.len) (by simpa using x.at_.one) ?_;intro wb bwb uwb;refine ldq 2 ?_;exact hK wb bwb (uwb.below bewa (Nat.le_refl _) (by have:=bewa.size;have:=hq2.out;omega))
 ·rintro L pre x nb W ⟨cv,hi1,hi2,hi3,hi4,hi5⟩ hnb hxb hkc hbl hnW hlen
  have X5:=hZ x.at_.len;have V5:=hZ hi2.len;have NB:Hid (nb≠q3):=(by have:=L7.out;rw [Hid];omega);have XT:Hid (TmAt [q3] W.drew x.t x.cs):=(TmAt.keepC hkc _ _ x.at_).below (Below.refl _ _).drew;have D0:Hid (IntAt W.drew q k):=hi3;have D2:Hid (Blk W.drew (q+2) 25 z5T):=hi4;have D3:Hid (Blk W.drew q3 25 cv):=hi1;have DT:Hid (TmAt (List.range (q+3)++[q3]) W.drew (bindT k f (pre.map (·.t)).reverse) cv):=hi2.below (Below.refl _ _).drew;have DS:Hid (q3<W.drew.heap.size):=hi5;have HS0:IntAt W.drew q k∧Blk W.drew nb 25 x.cs:=⟨hi3,hxb⟩;have KD:=hZ (Keeps.drew [q3] W);have NXT:Hid (bindT k f (((pre++[x]).map (·.t)).reverse)=.mk k 0 [] [] [x.t,bindT k f (pre.map (·.t)).reverse]):=(by rw [Hid,List.map_append,List.reverse_append];rfl);obtain ⟨bp,hbp⟩:∃ y,Hid (bindT k f (pre.map (·.t)).reverse=y):=⟨_,rfl⟩;rw [hbp.out] at DT NXT;clear hi1 hi2 hi3 hi4 hi5 hnb hxb hkc hbl hnW hlen;refine wpIn_block ?_;refine rin_draw (opsOf Tryz.f18 4) (fun W'=>IntAt W' q k∧Blk W' nb 25 x.cs) (by kernel_rfl) (by kernel_rfl) (by kernel_rfl) 7 (by kernel_rfl) ?_;intro Q' hQN hN;generalize W.drew=wd at XT D0 D2 D3 DT DS HS0 KD ⊢;refine reg_nowIf 0 (.int .i64 k) (some 16) hQN HS0 (by kernel_rfl) (by kernel_rfl) (fun w' hw=>exec_load_cell 3 (.tmp 3) (by kernel_rfl) q 0 (by kernel_rfl) _ (hw.1.cell rfl) _ Tryz.underlying3 rfl) ?_
  refine reg_nowIf 1 (.agg x.cs.toArray) (some 17) hQN HS0 (by kernel_rfl) (by kernel_rfl) (fun w' hw=>exec_load_mid 25 (.tmp 9) (by kernel_rfl) nb 0 (by kernel_rfl) x.cs _ hw.2.whole Tryz.underlying25 rfl (t5Size X5.out)) ?_;refine reg_lc 3 2 (.agg cv.toArray) 19 18 41 #[.agg x.cs.toArray] _ HS0 (fun w1 hb1=>⟨HS0.1.below hb1 HS0.1.lt,HS0.2.below hb1 HS0.2.lt⟩) (by kernel_rfl) (by kernel_rfl) (by kernel_rfl) (by decide) (by decide) (exec_load_mid 25 (.tmp 7) (by kernel_rfl) q3 0 (by kernel_rfl) cv _ D3.out.whole Tryz.underlying25 rfl (t5Size V5.out)) (fun vj w1 hb1=>exec_load_mid 25 (.tmp 7) (by kernel_rfl) q3 0 (by kernel_rfl) cv _ (D3.out.below hb1 D3.out.lt).whole Tryz.underlying25 rfl (t5Size V5.out)) (by kernel_rfl) (by kernel_rfl) (clone_walk x.t x.cs wd [q3] XT.out x.sm) ?_;rintro e w8 ⟨c',rfl,hct8,hb8⟩;refine ⟨hb8,_,rfl,?_⟩;have HS8:IntAt w8 q k∧Blk w8 nb 25 x.cs:=⟨HS0.1.below hb8 HS0.1.lt,HS0.2.below hb8 HS0.2.lt⟩;have G2:=hZ (D2.out.below hb8 D2.out.lt);have G3:=hZ (D3.out.below hb8 D3.out.lt);have GT:=hZ (DT.out.below hb8);have GS:Hid (q3<w8.heap.size):=(by have:=DS.out;have:=hb8.size;rw [Hid];omega);have GC:Hid (TmAt (List.range (q+3)++[q3]) w8 x.t c'):=TmAt.off hct8 (fun k hk=>by
   have h1:=DS.out;have h2:=Q3.out;rcases List.mem_append.1 hk with h|h
   ·have:=List.mem_range.1 h;exact .inl (by omega)
   ·simp at h;exact .inl (by omega))
  have GK:Hid (Keeps [q3] W w8):=KD.out.below (hb8.mono KD.out.size);obtain ⟨qn,hqn⟩:∃ y,Hid (w8.heap.size=y):=⟨_,rfl⟩;clear hct8 hb8 HS0 D0 D2 D3 DT DS KD XT;refine reg_row 4 25 (c'++cv) qn 2 (some 20) (by kernel_rfl) (by kernel_rfl) hqn (exec_of _ _ (by kernel_rfl) (run_build_tm2 GC.out GT.out w8)) ?_;intro w9 bw9 bew9 hsw9;have bew9':Below w8.heap.size w8 w9:=(by rw [hqn.out];exact bew9);have HS9:IntAt w9 q k∧Blk w9 nb 25 x.cs:=⟨HS8.1.below bew9' HS8.1.lt,HS8.2.below bew9' HS8.2.lt⟩;refine ⟨HS9,?_⟩;have I2:=hZ (G2.out.below bew9' G2.out.lt);have I3:=hZ (G3.out.below bew9' G3.out.lt);have IS:Hid (q3<w9.heap.size):=(by have:=GS.out;have:=bew9'.size;rw [Hid];omega);have QN:Hid (q3<qn):=(by have:=GS.out;have:=hqn.out;rw [Hid];omega);have IK:Hid (Keeps [q3] W w9):=GK.out.below (bew9'.mono GK.out.size);have IT:Hid (TmAt (List.range (q+3)++[q3]) w9 (.mk k 0 [] [] [x.t,bp]) (twoC k qn)):=two_at k bw9 (GC.out.below bew9') (GT.out.below bew9') (fun hc=>by
   have h1:=QN.out;have h2:=Q3.out;rcases List.mem_append.1 hc with h|h
   ·have:=List.mem_range.1 h;omega
   ·simp at h;omega)
  clear bw9 bew9 bew9' hsw9 G2 G3 GT GS GC GK HS8;refine reg_now 5 (.agg (twoC k qn).toArray) (some 21) hQN HS9 (by kernel_rfl) (by kernel_rfl) (fun w=>by kernel_rfl) ?_;refine reg_putT 6 25 (.tmp 7) (.tmp 21) q3 25 cv (twoC k qn) (by kernel_rfl) (by kernel_rfl) (by kernel_rfl) (by kernel_rfl) (by kernel_rfl) I3.out (by rw [V5.out];rfl) (t5Size rfl) (by simpa using twoC_one k qn) ?_;intro w10 bw10 uw10;refine ⟨⟨uw10.blk HS9.1 (by omega),uw10.blk HS9.2 NB.out⟩,?_⟩;have N0:IntAt w10 q k:=uw10.blk HS9.1 (by omega);have N2:Blk w10 (q+2) 25 z5T:=uw10.blk I2.out (by omega);have NT:TmAt (List.range (q+3)++[q3]) w10 (bindT k f ((pre++[x]).map (·.t)).reverse) (twoC k qn):=(by rw [NXT.out];exact TmAt.step (Step.of_upd uw10 (List.mem_append_right _ (by simp))) _ _ IT.out);have NS:q3<w10.heap.size:=(by have:=IS.out;have:=uw10.size;omega);have NK:Keeps [q3] W w10:=IK.out.upd uw10 (.inl (by simp));refine reg_done (by kernel_rfl) (hN _ _ ?_);exact ⟨NK,twoC k qn,bw10,NT,N0,N2,NS⟩
 ·rintro D W ⟨cv,hi1,hi2,hi3,hi4,hi5⟩ hD hK hb
  rw [XS.out] at hi2;have V5:=hZ hi2.len;have V1:=hZ hi2.one;have HT:=hZ hi2;have H3:=hZ hi1;have H4:=hZ hi4;have HD:Hid (q3+1≤D):=(by have:=L7.out;rw [Hid];omega);have HK:=hZ hK;have HB:=hZ hb;clear hi1 hi2 hi3 hi4 hi5 hD hK hb;dsimp only [Act.marked];go_upto_region 5 with (fail);refine lbeg (opsOf Tryz.f18 5) ?_;refine lrl 0 (cv) (some 22) 25 7 (q3) 0 (H3.out).whole Tryz.underlying25 (t5Size V5.out) ?_;refine lput 1 25 (.tmp 6) (.tmp 22) (q+2) _ (z5T) (cv) H4.out (V5.out.trans (rfl:z5T.length=5).symm) (t5Size V5.out) (by simpa using V1.out) ?_;intro w9 bw9 uw9;refine ldq 2 ?_;go_wp2;have KD:w9.heap[D]?=some (.deferred (some [])):=(uw9.block D (Array.getElem?_eq_some_iff.1 HK.out).1 (by have:=HD.out;omega)).trans HK.out;have st9:Step (List.range (q+3)++[q3]) W (List.range (q+3)++[q3]) w9:=Step.of_upd uw9 (List.mem_append_left _ (List.mem_range.2 (by omega)));have kput:KeepC (List.range (q+3)++[q3]) w9 (w9.putObj D (.deferred none)):=KeepC.put (w:=w) _ w9 D _ _ (by have:=HD.out;have:=hq.out;omega) KD rfl rfl;refine ret_marks rfl KD (v:=.agg cv.toArray) ?_ ⟨cv,rfl,?_,below_put (uw9.below HB.out (by omega) (by have:=HB.out.size;have:=hq.out;omega)) (by have:=HD.out;omega) (Array.getElem?_eq_some_iff.1 KD).1⟩
  ·exact results_cell_row (g:=q+2) (t:=25) (cs:=cv.toArray) (fr:=(0,0)) Tryz.results18 _ _ _ rfl (blk_put bw9 (by have:=HD.out;omega)) Tryz.underlying25 rfl (t5Size V5.out)
  ·exact TmAt.sub (fun k hk=>.inl (List.mem_append_left _ (List.mem_range.2 (by have:=List.mem_range.1 hk;omega)))) _ _ (TmAt.keepC kput _ _ (TmAt.step st9 _ _ HT.out))
 ·rintro D c pre W hp h hD hK hb
  exact h.elim
end Go.Proofs.YtmceocgddaaohaaGreatDoor
