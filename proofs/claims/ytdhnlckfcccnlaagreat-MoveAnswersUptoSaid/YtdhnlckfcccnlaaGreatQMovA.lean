import Derived.Test.YtdhnlckfcccnlaaGreatQGenT
import Derived.Test.YtdhnlckfcccnlaaGreatQTrmM
import Derived.Test.YtdhnlckfcccnlaaGreatQTrmR
import Derived.Test.YtdhnlckfcccnlaaGreatQTrmE
import Derived.WalkLawsBesides
namespace Go.Proofs.YtdhnlckfcccnlaaGreat
open Go Go.RowKit
set_option maxRecDepth 100000
def fell (k:Int):Ending:=.panicked [{ v:=.iface 58 (.int .i64 k),recovered:=false }]
def Fell (e:Ending):Prop:=∃ k:Int,e=fell k
theorem need_yes (k:Int) (w:World):Calls Tryz.prog 29 #[.bool true,.int .i64 k] w fun e w'=>e=.returned (.tuple #[])∧w'=w:=by
 go_enter Tryz.func29,Tryz.ntmps29
 go_wp2
 go_end0
 exact ⟨rfl,rfl⟩
theorem need_no (k:Int) (w:World):Calls Tryz.prog 29 #[.bool false,.int .i64 k] w fun e w'=>e=fell k∧w'=w:=by
 go_enter Tryz.func29,Tryz.ntmps29
 go_wp2;exact ⟨rfl,rfl,rfl⟩
theorem takes_walk (k:Int) (w:World):Calls Tryz.prog 50 #[.int .i64 k] w fun e w'=>e=.returned (.bool (decide (k=6∨k=7)))∧w'=w:=by
 by_cases h6:k=6<;>by_cases h7:k=7<;>first|omega |
  (go_enter Tryz.func50,Tryz.ntmps50
   go_wp2;go_ret;exact ⟨by simp [h6,h7],rfl⟩)
theorem mbinder_walk (k:Int) (w:World):Calls Tryz.prog 88 #[.int .i64 k] w fun e w'=>e=.returned (.bool (decide (k=6∨k=7∨k=8)))∧w'=w:=by
 have h:=takes_walk k w;obtain ⟨b,hb⟩:∃ b,Hid (decide (k=6∨k=7)=b):=⟨_,rfl⟩;rw [hb.out] at h;have OUT:Hid (decide (k=6∨k=7∨k=8)=(b||decide (k=8))):=by rw [Hid,← hb.out];by_cases h6:k=6<;>by_cases h7:k=7<;>by_cases h8:k=8<;>simp [h6,h7,h8]
 rw [OUT.out]
 go_enter Tryz.func88,Tryz.ntmps88
 go_upto_region 0 with (fail);refine lbeg (opsOf Tryz.f88 0) ?_;refine lnow 0 (.bool false) (some 2) ?_;refine ldq 1 ?_;cases b
 ·skip
  go_upto_region 1 with (fail);refine lbeg (opsOf Tryz.f88 1) ?_;refine lnow 0 (.int .i64 k) (some 3) ?_;refine lcal 1 50 #[.int .i64 k] (some 4) _ (h) ?_;rintro e w' ⟨rfl,hw⟩;obtain rfl:=hw.symm;refine ⟨_,rfl,?_⟩;refine lnow 2 (.bool false) (some 5) ?_;refine lnow 3 (.int .i64 k) (some 6) ?_;refine lnow 4 (.bool (decide (k=8))) (some 7) ?_;refine lnow 5 (.bool (decide (k=8))) (some 8) ?_;refine lnow 6 (.bool (decide (k=8))) (some 2) ?_;refine ldq 7 ?_;go_wp2;go_ret;exact ⟨by simp,rfl⟩
 go_upto_region 1 with (fail);refine lbeg (opsOf Tryz.f88 1) ?_;refine lnow 0 (.int .i64 k) (some 3) ?_;refine lcal 1 50 #[.int .i64 k] (some 4) _ (h) ?_;rintro e w' ⟨rfl,hw⟩;obtain rfl:=hw.symm;refine ⟨_,rfl,?_⟩;refine lnow 2 (.bool true) (some 5) ?_;refine lpas 3 (some 6) ?_;refine lpas 4 (some 7) ?_;refine lnow 5 (.bool true) (some 8) ?_;refine lnow 6 (.bool true) (some 2) ?_;refine ldq 7 ?_;go_wp2;go_ret;exact ⟨by simp,rfl⟩
set_option maxHeartbeats 4000000 in
theorem valid_walk {F:List Nat} (t:Tm) (cs:List Value) (w:World) (ht:TmAt F w t cs) (hs:SmT t) (hn:nodesT t≤100000000000):Calls Tryz.prog 30 #[.agg cs.toArray] w fun e w'=>(rightP 4 1099511627776 t=true∧e=.returned (.agg cs.toArray)∧Below w.heap.size w w')∨(rightP 4 1099511627776 t=false∧Fell e∧Below w.heap.size w w'):=by
 have C5:=hZ ht.len;have C1:=hZ ht.one;have HT:=hZ ht;obtain ⟨q,hq⟩:∃ q,Hid (w.heap.size=q):=⟨_,rfl⟩;obtain ⟨b,hb⟩:∃ b,Hid (rightP 4 1099511627776 t=b):=⟨_,rfl⟩;rw [hb.out];clear ht
 go_enter Tryz.func30,Tryz.ntmps30
 go_upto_region 0 with (fail);refine lbeg (opsOf Tryz.f30 0) ?_;refine lbox 0 25 (.tmp 0) (cs) (q) (some 1) hq ?_;intro w1 bw1 bew1 hsw1;refine lall 1 25 z5T (q+1) (some 2) hsw1 ?_;intro w2 bw2 bew2 hsw2;refine ldq 2 ?_;have BQ:Hid (Blk w2 q 25 cs):=bw1.below bew2 (by omega);have BR:Hid (Blk w2 (q+1) 25 z5T):=bw2;have BE:Hid (Below q w w2):=bew1.trans (bew2.mono (by omega));have S2:Hid (w2.heap.size=q+2):=hsw2;have RW:=right_walk8 t cs 4 1099511627776 w2 (HT.out.step (Step.of_below BE.out (by have:=hq.out;omega))) hs hn;rw [hb.out] at RW;clear bw1 bew1 hsw1 bw2 bew2 hsw2;cases b
 ·skip
  go_upto_region 1 with (fail);refine lbeg (opsOf Tryz.f30 1) ?_;refine lrl 0 (cs) (some 3) 25 1 (q) 0 (BQ.out).whole Tryz.underlying25 (t5Size C5.out) ?_;refine lcal 1 55 #[.agg cs.toArray,.int .i64 4,.int .i64 1099511627776] (some 4) _ (RW) ?_;rintro e w3 ⟨rfl,hb3⟩;refine ⟨_,rfl,?_⟩;have BE3:Hid (Below q w w3):=BE.out.trans (hb3.mono (by have:=S2.out;omega));refine lin_callP 2 29 #[.bool false,.int .i64 10] (some 5) _ (by kernel_rfl) (by kernel_rfl) (by kernel_rfl) (need_no 10 w3) ?_;rintro e w4 ⟨rfl,rfl⟩;exact .inr ⟨_,rfl,rfl,.inr ⟨rfl,⟨_,rfl⟩,by rw [hq.out];exact BE3.out⟩⟩
 go_upto_region 1 with (fail);refine lbeg (opsOf Tryz.f30 1) ?_;refine lrl 0 (cs) (some 3) 25 1 (q) 0 (BQ.out).whole Tryz.underlying25 (t5Size C5.out) ?_;refine lcal 1 55 #[.agg cs.toArray,.int .i64 4,.int .i64 1099511627776] (some 4) _ (RW) ?_;rintro e w3 ⟨rfl,hb3⟩;refine ⟨_,rfl,?_⟩;have BE3:Hid (Below q w w3):=BE.out.trans (hb3.mono (by have:=S2.out;omega));have BQ3:Hid (Blk w3 q 25 cs):=BQ.out.below hb3 BQ.out.lt;have BR3:Hid (Blk w3 (q+1) 25 z5T):=BR.out.below hb3 BR.out.lt;have S3:Hid (q+2≤w3.heap.size):=(by have:=hb3.size;have:=S2.out;rw [Hid];omega);clear hb3;refine lcal 2 29 #[.bool true,.int .i64 10] (some 5) _ (need_yes 10 w3) ?_;rintro e w4 ⟨rfl,rfl⟩;refine ⟨_,rfl,?_⟩;refine ldq 3 ?_;go_upto_region 2 with (fail);refine lbeg (opsOf Tryz.f30 2) ?_;refine lrl 0 (cs) (some 6) 25 1 (q) 0 (BQ3.out).whole Tryz.underlying25 (t5Size C5.out) ?_;refine lput 1 25 (.tmp 2) (.tmp 6) (q+1) _ (z5T) (cs) BR3.out (C5.out.trans (rfl:z5T.length=5).symm) (t5Size C5.out) (by simpa using C1.out) ?_;intro w5 bw5 uw5;refine ldq 2 ?_;go_wp2;refine bodyPost_ret (v:=.agg cs.toArray) ?_ rfl ⟨rfl,by rw [hq.out];exact uw5.below BE3.out (by omega) (by have:=S3.out;omega)⟩;exact results_cell_row (g:=q+1) (t:=25) (cs:=cs.toArray) (fr:=(0,0)) Tryz.results30 _ _ _ rfl bw5 Tryz.underlying25 rfl (t5Size C5.out)
theorem built_catch (k:Int) (older:List PanicEntry) (w:World):CallsD Tryz.prog 54 #[] (.panicking ({ v:=.iface 58 (.int .i64 k),recovered:=false }::older)) w fun e u' w'=>e=.returned (.tuple #[])∧u'=.panicking ({ v:=.iface 58 (.int .i64 k),recovered:=true }::older)∧w'=w:=by
 refine callsD_of_wpS Tryz.func54 rfl fun c₀ cs hu=>?_
 apply wpS_seq
 apply wpS_region
 simp [wpOpsS,go_sem,recoverD,hu,Tryz.ntmps54,Exit.thenS]
 have hta:∀ w,(Instr.typeAssert (.iface 58 (.int .i64 k)) 20 58 true).run Tryz.prog w=.ok (.tuple #[.int .i64 k,.bool true]) w:=fun w=>by kernel_rfl
 refine wpS_of_wp ?_;go_wp2
 simp [bodyPostS,results,Tryz.results54]
theorem built_idle (w:World):CallsD Tryz.prog 54 #[] .returning w fun e u' w'=>e=.returned (.tuple #[])∧u'=.returning∧w'=w:=by
 refine callsD_of_wpS Tryz.func54 rfl fun c₀ cs hu=>?_
 apply wpS_seq
 apply wpS_region
 simp [wpOpsS,go_sem,recoverD,hu,Tryz.ntmps54,Exit.thenS]
 refine wpS_of_wp ?_;go_wp2;cases c₀
 simp_all [bodyPostS,results,Tryz.results54]
theorem builto_catch (k:Int) (older:List PanicEntry) (w:World):CallsD Tryz.prog 78 #[] (.panicking ({ v:=.iface 58 (.int .i64 k),recovered:=false }::older)) w fun e u' w'=>e=.returned (.tuple #[])∧u'=.panicking ({ v:=.iface 58 (.int .i64 k),recovered:=true }::older)∧w'=w:=by
 refine callsD_of_wpS Tryz.func78 rfl fun c₀ cs hu=>?_
 apply wpS_seq
 apply wpS_region
 simp [wpOpsS,go_sem,recoverD,hu,Tryz.ntmps78,Exit.thenS]
 have hta:∀ w,(Instr.typeAssert (.iface 58 (.int .i64 k)) 20 58 true).run Tryz.prog w=.ok (.tuple #[.int .i64 k,.bool true]) w:=fun w=>by kernel_rfl
 refine wpS_of_wp ?_;go_wp2
 simp [bodyPostS,results,Tryz.results78]
theorem builto_idle (w:World):CallsD Tryz.prog 78 #[] .returning w fun e u' w'=>e=.returned (.tuple #[])∧u'=.returning∧w'=w:=by
 refine callsD_of_wpS Tryz.func78 rfl fun c₀ cs hu=>?_
 apply wpS_seq
 apply wpS_region
 simp [wpOpsS,go_sem,recoverD,hu,Tryz.ntmps78,Exit.thenS]
 refine wpS_of_wp ?_;go_wp2;cases c₀
 simp_all [bodyPostS,results,Tryz.results78]
def z6O:List Value:=[.slice none 0 0,.int .i64 0,.int .i64 0,strT [],.slice none 0 0,.slice none 0 0]
set_option maxHeartbeats 4000000 in
theorem built_cells (gf : FuncId) (lb : Array Value) (w : World) (hgf : ∀ args w, (callFunc gf args).run Tryz.prog w = .ok (.enter gf args) w) (Ok : List Value → World → World → Prop) (yes : Bool)
    (hc:∀ w1,Below w.heap.size w w1→Calls Tryz.prog gf (#[]++lb) w1 fun e w2=>Below w1.heap.size w1 w2∧((yes=true∧∃ cs,e=.returned (.agg cs.toArray)∧cs.length=5∧(∀ u∈cs,u.oneCell'=true)∧Ok cs w1 w2)∨(yes=false∧Fell e))) :
    Calls Tryz.prog 27 #[.func (.func gf) #[] lb] w fun e w'=>Below w.heap.size w w'∧((yes=true∧∃ cs w1 w2,e=.returned (.tuple #[.agg cs.toArray,.bool true])∧Below w.heap.size w w1∧w.heap.size<w1.heap.size∧Ok cs w1 w2∧Upd w.heap.size w2 w')∨(yes=false∧e=.returned (.tuple #[.agg (z5T).toArray,.bool false]))):=by
 obtain ⟨q,hq⟩:∃ q,Hid (w.heap.size=q):=⟨_,rfl⟩;rw [hq.out] at hc ⊢;have HC:=hZ hc;clear hc
 go_enter_defers Tryz.func27,Tryz.ntmps27
 go_upto_region 0 with (fail);refine lbeg (opsOf Tryz.f27 0) ?_;refine lall 0 25 z5T q (some 2) hq ?_;intro w1 bw1 bew1 hsw1;refine lnow 1 (.bool false) (some 3) ?_;refine ldq 2 ?_;have B1:=hZ bw1;have BE:=hZ bew1;have S1:Hid (w1.heap.size=q+1):=hsw1;clear bw1 bew1 hsw1;go_upto_region 2 with (fail);refine lbeg (opsOf Tryz.f27 2) ?_;refine lnow 0 (.func (.func gf) #[] lb) (some 4) ?_;refine lin_callP 1 gf (#[]++lb) (some 5) _ (by kernel_rfl) (by kernel_rfl) ((congrArg (fun z:Sem Next=>z.run Tryz.prog w1) (show execOp _ _=callFunc gf (#[]++lb) by kernel_rfl)).trans (hgf _ _)) (HC.out w1 BE.out) ?_;rintro e w2 ⟨hb2,⟨hy,cs,rfl,h5,h1,hok⟩|⟨hy,k,rfl⟩⟩
 rotate_left
 ·subst hy
  refine .inr ⟨_,rfl,?_⟩;have B2:Hid (Blk w2 q 25 z5T):=B1.out.below hb2 B1.out.lt;have BE2:Hid (Below q w w2):=BE.out.trans (hb2.mono (by have:=S1.out;omega));refine leaves_cons (f:=54) (args:=#[]) (by simp) (by kernel_rfl) ?_;refine (built_catch k [] w2).mono ?_;rintro e u' w3 ⟨rfl,rfl,rfl⟩;refine ⟨.tuple #[.agg (z5T).toArray,.bool false],?_,BE2.out,.inr ⟨rfl,rfl⟩⟩;exact results_cell_tmp Tryz.results27 _ _ q 25 (z5T).toArray (0,0) _ _ rfl rfl B2.out Tryz.underlying25 rfl (by kernel_rfl)
 subst hy;refine .inl ⟨_,rfl,?_⟩;have B2:Hid (Blk w2 q 25 z5T):=B1.out.below hb2 B1.out.lt;have BE2:Hid (Below q w w2):=BE.out.trans (hb2.mono (by have:=S1.out;omega));have S2:Hid (q+1≤w2.heap.size):=(by have:=hb2.size;have:=S1.out;rw [Hid];omega);refine lput 2 25 (.tmp 2) (.tmp 5) (q) _ (z5T) (cs) B2.out (h5.trans (by kernel_rfl)) (by rw [h5];kernel_rfl) (by simpa using h1) ?_;intro w3 bw3 uw3;refine lnow 3 (.bool true) (some 3) ?_;refine ldq 4 ?_;go_wp2;refine leaves_cons (f:=54) (args:=#[]) (by simp) (by kernel_rfl) ?_;refine (built_idle w3).mono ?_;rintro e u' w4 ⟨rfl,rfl,rfl⟩;refine ⟨.tuple #[.agg cs.toArray,.bool true],?_,uw3.below BE2.out (Nat.le_refl _) (by have:=S2.out;have:=BE2.out.size;have:=hq.out;omega),⟨cs,rfl,w1,BE.out,by have:=S1.out;omega,w2,hok,uw3⟩⟩;exact results_cell_tmp Tryz.results27 _ _ q 25 cs.toArray (0,0) _ _ rfl rfl bw3 Tryz.underlying25 rfl (by rw [List.size_toArray,h5];kernel_rfl)
set_option maxHeartbeats 4000000 in
theorem builto_cells (gf : FuncId) (lb : Array Value) (w : World) (hgf : ∀ args w, (callFunc gf args).run Tryz.prog w = .ok (.enter gf args) w) (Ok : List Value → World → World → Prop) (yes : Bool)
    (hc:∀ w1,Below w.heap.size w w1→Calls Tryz.prog gf (#[]++lb) w1 fun e w2=>Below w1.heap.size w1 w2∧((yes=true∧∃ cs,e=.returned (.agg cs.toArray)∧cs.length=6∧(∀ u∈cs,u.oneCell'=true)∧Ok cs w1 w2)∨(yes=false∧Fell e))) :
    Calls Tryz.prog 48 #[.func (.func gf) #[] lb] w fun e w'=>Below w.heap.size w w'∧((yes=true∧∃ cs w1 w2,e=.returned (.tuple #[.agg cs.toArray,.bool true])∧Below w.heap.size w w1∧w.heap.size<w1.heap.size∧Ok cs w1 w2∧Upd w.heap.size w2 w')∨(yes=false∧e=.returned (.tuple #[.agg (z6O).toArray,.bool false]))):=by
 obtain ⟨q,hq⟩:∃ q,Hid (w.heap.size=q):=⟨_,rfl⟩;rw [hq.out] at hc ⊢;have HC:=hZ hc;clear hc
 go_enter_defers Tryz.func48,Tryz.ntmps48
 go_upto_region 0 with (fail);refine lbeg (opsOf Tryz.f48 0) ?_;refine lall 0 77 z6O q (some 2) hq ?_;intro w1 bw1 bew1 hsw1;refine lnow 1 (.bool false) (some 3) ?_;refine ldq 2 ?_;have B1:=hZ bw1;have BE:=hZ bew1;have S1:Hid (w1.heap.size=q+1):=hsw1;clear bw1 bew1 hsw1;go_upto_region 2 with (fail);refine lbeg (opsOf Tryz.f48 2) ?_;refine lnow 0 (.func (.func gf) #[] lb) (some 4) ?_;refine lin_callP 1 gf (#[]++lb) (some 5) _ (by kernel_rfl) (by kernel_rfl) ((congrArg (fun z:Sem Next=>z.run Tryz.prog w1) (show execOp _ _=callFunc gf (#[]++lb) by kernel_rfl)).trans (hgf _ _)) (HC.out w1 BE.out) ?_;rintro e w2 ⟨hb2,⟨hy,cs,rfl,h5,h1,hok⟩|⟨hy,k,rfl⟩⟩
 rotate_left
 ·subst hy
  refine .inr ⟨_,rfl,?_⟩;have B2:Hid (Blk w2 q 77 z6O):=B1.out.below hb2 B1.out.lt;have BE2:Hid (Below q w w2):=BE.out.trans (hb2.mono (by have:=S1.out;omega));refine leaves_cons (f:=78) (args:=#[]) (by simp) (by kernel_rfl) ?_;refine (builto_catch k [] w2).mono ?_;rintro e u' w3 ⟨rfl,rfl,rfl⟩;refine ⟨.tuple #[.agg (z6O).toArray,.bool false],?_,BE2.out,.inr ⟨rfl,rfl⟩⟩;exact results_cell_tmp Tryz.results48 _ _ q 77 (z6O).toArray (0,0) _ _ rfl rfl B2.out Tryz.underlying77 rfl (by kernel_rfl)
 subst hy;refine .inl ⟨_,rfl,?_⟩;have B2:Hid (Blk w2 q 77 z6O):=B1.out.below hb2 B1.out.lt;have BE2:Hid (Below q w w2):=BE.out.trans (hb2.mono (by have:=S1.out;omega));have S2:Hid (q+1≤w2.heap.size):=(by have:=hb2.size;have:=S1.out;rw [Hid];omega);refine lput 2 77 (.tmp 2) (.tmp 5) (q) _ (z6O) (cs) B2.out (h5.trans (by kernel_rfl)) (by rw [h5];kernel_rfl) (by simpa using h1) ?_;intro w3 bw3 uw3;refine lnow 3 (.bool true) (some 3) ?_;refine ldq 4 ?_;go_wp2;refine leaves_cons (f:=78) (args:=#[]) (by simp) (by kernel_rfl) ?_;refine (builto_idle w3).mono ?_;rintro e u' w4 ⟨rfl,rfl,rfl⟩;refine ⟨.tuple #[.agg cs.toArray,.bool true],?_,uw3.below BE2.out (Nat.le_refl _) (by have:=S2.out;have:=BE2.out.size;have:=hq.out;omega),⟨cs,rfl,w1,BE.out,by have:=S1.out;omega,w2,hok,uw3⟩⟩;exact results_cell_tmp Tryz.results48 _ _ q 77 cs.toArray (0,0) _ _ rfl rfl bw3 Tryz.underlying77 rfl (by rw [List.size_toArray,h5];kernel_rfl)
def zT:Tm:=.mk 0 0 [] [] []
theorem z5T_at (F:List Nat) (w:World):TmAt F w zT z5T:=TmAt.mk (t:=zT) (LvsOff.nil _ _ _ _) (TmsAt.nil _ _ _ _)
def Builds (r:Option Tm) (w:World) (e:Ending) (w':World):Prop:=Below w.heap.size w w'∧match r with
 |some t=>∃ cs,e=.returned (.agg cs.toArray)∧TmAt (List.range w.heap.size) w' t cs
 |none=>Fell e
theorem built_walk (gf : FuncId) (lb : Array Value) (w : World) (hgf : ∀ args w, (callFunc gf args).run Tryz.prog w = .ok (.enter gf args) w) (r : Option Tm) (hc : ∀ w1, Below w.heap.size w w1 → Calls Tryz.prog gf (#[] ++ lb) w1 (Builds r w1)) :
    Calls Tryz.prog 27 #[.func (.func gf) #[] lb] w fun e w'=>∃ cs,e=.returned (.tuple #[.agg cs.toArray,.bool r.isSome])∧TmAt (List.range w.heap.size) w' (r.getD zT) cs∧Below w.heap.size w w':=by
 refine (built_cells gf lb w hgf (fun cs w1 w2=>TmAt (List.range w1.heap.size) w2 (r.getD zT) cs) r.isSome (fun w1 h1=>(hc w1 h1).mono ?_)).mono ?_
 ·rintro e w2 ⟨hb,hr⟩
  cases r with
  |none=>exact ⟨hb,.inr ⟨rfl,hr⟩⟩
  |some t=>
   obtain ⟨cs,he,ht⟩:=hr;exact ⟨hb,.inl ⟨rfl,cs,he,ht.len,ht.one,ht⟩⟩
 ·rintro e w' ⟨hb,⟨hy,cs,w1,w2,rfl,h1,h2,h3,h4⟩|⟨hy,rfl⟩⟩
  ·exact ⟨cs,by rw [hy],(TmAt.step (Step.of_upd h4 (List.mem_range.2 h2)) _ _ h3).range (Nat.le_of_lt h2),hb⟩
  ·refine ⟨z5T,by rw [hy],?_,hb⟩
   cases r with
   |none=>exact z5T_at _ _
   |some t=>cases hy
end Go.Proofs.YtdhnlckfcccnlaaGreat
