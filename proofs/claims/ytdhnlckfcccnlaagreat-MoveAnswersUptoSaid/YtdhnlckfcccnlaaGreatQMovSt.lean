import Derived.Test.YtdhnlckfcccnlaaGreatQGenT
import Derived.Test.YtdhnlckfcccnlaaGreatQTrmRr
import Derived.Test.YtdhnlckfcccnlaaGreatQMovG
import Derived.Test.YtdhnlckfcccnlaaGreatQMovN
import Derived.Test.YtdhnlckfcccnlaaGreatQMovQ
import Derived.Test.YtdhnlckfcccnlaaGreatQJobA
import Derived.Test.YtdhnlckfcccnlaaGreatQMovU
namespace Go.Proofs.YtdhnlckfcccnlaaGreat
open Go Go.RowKit
set_option maxRecDepth 100000
def GreatP (t:Tm) (N:Nat) (w:World) (e:Ending) (w':World):Prop:=∃ b,e=.returned (.bool b)∧(b=false→nodesT t≤3600∧N≤12)∧Below w.heap.size w w'
set_option maxHeartbeats 4000000 in
theorem great9_walk {F:List Nat} (t:Tm) (cs:List Value) (xa:List Tm) (N:Nat) (aa:Option Addr) (ac:Nat) (w:World) (ht:TmAt F w t cs) (hs:SmT t) (hA:TmsAt F w xa (.slice aa N ac)) (hsa:SmTs xa) (hN:xa.length=N):Calls Tryz.prog 5 #[.agg cs.toArray,.slice aa N ac] w fun e w'=>GreatP t N w e w':=by
 have C5:=hZ ht.len;have HT:=hZ ht;have HA:=hZ hA;obtain ⟨q,hq⟩:∃ q,Hid (w.heap.size=q):=⟨_,rfl⟩;have GW:=fun w' (h:TmAt F w' t cs)=>great_walk t cs w' h hs
 obtain ⟨gb,hgb⟩:∃ y,Hid (decide (3600<nodesT t)=y):=⟨_,rfl⟩;rw [hgb.out] at GW;clear ht hA
 go_enter Tryz.func5,Tryz.ntmps5
 go_upto_region 0 with (fail);refine lbeg (opsOf Tryz.f5 0) ?_;refine lbox 0 25 (.tmp 0) (cs) (q) (some 2) hq ?_;intro w1 bw1 bew1 hsw1;refine lnow 1 (.bool false) (some 4) ?_;refine ldq 2 ?_;have BQ:=hZ bw1;have BE:Hid (Below w.heap.size w w1):=(by rw [Hid,hq.out];exact bew1);clear bw1 bew1 hsw1;by_cases c1:(N:Int)>12
 ·skip
  go_upto_region 1 with (fail);refine lbeg (opsOf Tryz.f5 1) ?_;refine lnow 0 (.slice aa N ac) (some 7) ?_;refine lnow 1 (.int .i64 (N:Int)) (some 8) ?_;refine lnow 2 (.bool (decide ((N:Int)>12))) (some 9) ?_;rw [show decide ((N:Int)>12)=true from decide_eq_true c1];refine lnow 3 (.bool true) (some 10) ?_;refine lpas 4 (some 11) ?_;refine lpas 5 (some 12) ?_;refine lnow 6 (.bool true) (some 13) ?_;refine ldq 7 ?_;go_upto_region 2 with (fail);refine lbeg (opsOf Tryz.f5 2) ?_;refine lnow 0 (.bool true) (some 4) ?_;refine ldq 1 ?_;go_wp2;go_ret;exact ⟨true,rfl,(fun h=>by cases h),BE.out⟩
 obtain _|_:=gb
 rotate_left
 ·skip
  go_upto_region 1 with (fail);refine lbeg (opsOf Tryz.f5 1) ?_;refine lnow 0 (.slice aa N ac) (some 7) ?_;refine lnow 1 (.int .i64 (N:Int)) (some 8) ?_;refine lnow 2 (.bool (decide ((N:Int)>12))) (some 9) ?_;rw [show decide ((N:Int)>12)=false from decide_eq_false c1];refine lnow 3 (.bool false) (some 10) ?_;refine lrl 4 (cs) (some 11) 25 2 (q) 0 (BQ.out).whole Tryz.underlying25 (t5Size C5.out) ?_;refine lcal 5 25 #[.agg cs.toArray] (some 12) _ (GW w1 (HT.out.below BE.out)) ?_;rintro e w2 ⟨rfl,hb⟩;refine ⟨_,rfl,?_⟩;have BE2:Hid (Below w.heap.size w w2):=BE.out.trans (hb.mono BE.out.size);clear hb;refine lnow 6 (.bool true) (some 13) ?_;refine ldq 7 ?_;go_upto_region 2 with (fail);refine lbeg (opsOf Tryz.f5 2) ?_;refine lnow 0 (.bool true) (some 4) ?_;refine ldq 1 ?_;go_wp2;go_ret;exact ⟨true,rfl,(fun h=>by cases h),BE2.out⟩
 go_upto_region 1 with (fail);refine lbeg (opsOf Tryz.f5 1) ?_;refine lnow 0 (.slice aa N ac) (some 7) ?_;refine lnow 1 (.int .i64 (N:Int)) (some 8) ?_;refine lnow 2 (.bool (decide ((N:Int)>12))) (some 9) ?_;rw [show decide ((N:Int)>12)=false from decide_eq_false c1];refine lnow 3 (.bool false) (some 10) ?_;refine lrl 4 (cs) (some 11) 25 2 (q) 0 (BQ.out).whole Tryz.underlying25 (t5Size C5.out) ?_;refine lcal 5 25 #[.agg cs.toArray] (some 12) _ (GW w1 (HT.out.below BE.out)) ?_;rintro e w2 ⟨rfl,hb⟩;refine ⟨_,rfl,?_⟩;have BE2:Hid (Below w.heap.size w w2):=BE.out.trans (hb.mono BE.out.size);clear hb;refine lnow 6 (.bool false) (some 13) ?_;refine ldq 7 ?_;have NT:Hid (nodesT t≤3600):=(by have:=of_decide_eq_false hgb.out;rw [Hid];omega);clear GW hgb BE BQ;go_upto_region 3 with (fail);refine lbeg (opsOf Tryz.f5 3) ?_;refine lnow 0 (.int .i64 0) (some 5) ?_;refine ldq 1 ?_;go_upto_region 4 with (fail);refine lbeg (opsOf Tryz.f5 4) ?_;refine lnow 0 (.int .i64 0) (some 6) ?_;refine ldq 1 ?_;go_wp2
 go_loopw [5,6] (fun nv iv wr=>∃ (i:Nat) (z:Int),i≤N∧iv=.int .i64 (i:Int)∧nv=.int .i64 z∧(0≤z∧z≤5000)∧Hid (Below w.heap.size w wr)) (fun _ iv _=>N-(intOf iv).toNat)
 case atStart=>exact ⟨0,0,Nat.zero_le _,rfl,rfl,by omega,BE2⟩
 case round=>
  obtain ⟨i,z,hi,rfl,rfl,hz,BE⟩:=hrel;by_cases hlt:i<N
  rotate_left
  ·skip
   have cl:¬ (i:Int)<(N:Int):=(by omega);go_upto_region 5 with (fail);refine lbeg (opsOf Tryz.f5 5) ?_;refine lnow 0 (.int .i64 (i:Int)) (some 14) ?_;refine lnow 1 (.slice aa N ac) (some 15) ?_;refine lnow 2 (.int .i64 (N:Int)) (some 16) ?_;refine lnow 3 (.bool (decide ((i:Int)<(N:Int)))) (some 17) ?_;rw [show decide ((i:Int)<(N:Int))=false from decide_eq_false cl];refine ldq 4 ?_;go_upto_region 10 with (fail);refine lbeg (opsOf Tryz.f5 10) ?_;refine lnow 0 (.bool false) (some 4) ?_;refine ldq 1 ?_;go_wp2;go_ret;exact ⟨false,rfl,(fun _=>⟨NT.out,by omega⟩),BE.out⟩
  have cl:(i:Int)<(N:Int):=(by omega);have HAr:TmsAt F wr xa (.slice aa N ac):=HA.out.below BE.out;obtain ⟨x,pb,po,cx,-,hxm,haa,-,-,-,hrx,htx⟩:=HAr.get hN hlt;subst haa;have HRX:=hZ hrx;have X5:=hZ htx.len;have CALL:=tnodes_walk x cx wr 3600 F htx (SmTs.mem hsa hxm) (by omega);obtain ⟨m,hm⟩:∃ m:Int,Hid (((min (nodesT x) (3600+1):Nat):Int)=m):=⟨_,rfl⟩;have hmo:=hm.out;rw [hm.out] at CALL;clear HAr hxm hrx htx;go_upto_region 5 with (fail);refine lbeg (opsOf Tryz.f5 5) ?_;refine lnow 0 (.int .i64 (i:Int)) (some 14) ?_;refine lnow 1 (.slice (some ⟨pb,po,none⟩) N ac) (some 15) ?_;refine lnow 2 (.int .i64 (N:Int)) (some 16) ?_;refine lnow 3 (.bool (decide ((i:Int)<(N:Int)))) (some 17) ?_;rw [show decide ((i:Int)<(N:Int))=true from decide_eq_true cl];refine ldq 4 ?_;go_upto_region 7 with (fail);refine lbeg (opsOf Tryz.f5 7) ?_;refine lnow 0 (.int .i64 z) (some 20) ?_;refine lnow 1 (.slice (some ⟨pb,po,none⟩) N ac) (some 21) ?_;refine lnow 2 (.int .i64 (i:Int)) (some 22) ?_;refine lix 3 (.pointer (some ⟨pb,po+5*i,none⟩)) (some 23) 23 21 22 (run_at_tm pb po N ac i hlt _) ?_;refine lrl 4 cx (some 24) 25 23 pb (po+5*i) HRX.out Tryz.underlying25 (t5Size X5.out) ?_;refine lcal 5 26 #[.agg cx.toArray,.int .i64 3600] (some 25) _ (CALL) ?_;rintro e w3 ⟨rfl,hb⟩;refine ⟨_,rfl,?_⟩;have BE3:Hid (Below w.heap.size w w3):=BE.out.trans (hb.mono BE.out.size);clear hb CALL
  refine lnow 6 (.int .i64 (IntKind.i64.wrap (z+m))) (some 26) ?_;rw [show IntKind.i64.wrap (z+m)=z+m from IntWalk.i64_in _ (by omega)];refine lnow 7 (.int .i64 (z+m)) (some 5) ?_;refine ldq 8 ?_;by_cases hbig:z+m>5000
  ·skip
   go_upto_region 8 with (fail);refine lbeg (opsOf Tryz.f5 8) ?_;refine lnow 0 (.int .i64 (z+m)) (some 27) ?_;refine lnow 1 (.bool (decide (z+m>5000))) (some 28) ?_;rw [show decide (z+m>5000)=true from decide_eq_true hbig];refine ldq 2 ?_;go_upto_region 9 with (fail);refine lbeg (opsOf Tryz.f5 9) ?_;refine lnow 0 (.bool true) (some 4) ?_;refine ldq 1 ?_;go_wp2;go_ret;exact ⟨true,rfl,(fun h=>by cases h),BE3.out⟩
  go_upto_region 8 with (fail);refine lbeg (opsOf Tryz.f5 8) ?_;refine lnow 0 (.int .i64 (z+m)) (some 27) ?_;refine lnow 1 (.bool (decide (z+m>5000))) (some 28) ?_;rw [show decide (z+m>5000)=false from decide_eq_false hbig];refine ldq 2 ?_;have hz2:0≤z+m∧z+m≤5000:=(by omega);clear hm hmo HRX X5 BE;have bl:N≤12:=(by omega);go_wp2;go_roundw
  case rel=>exact ⟨i+1,z+m,by omega,by go_num,rfl,hz2,BE3⟩
  case measure=>simp [intOf];omega
end Go.Proofs.YtdhnlckfcccnlaaGreat
namespace Go.Proofs.YtdhnlckfcccnlaaGreat
open Go Go.RowKit
set_option maxRecDepth 100000
theorem instAll_len {bs:List Lv}:∀ (ls rs:List Lv),instAll bs ls=some rs→rs.length=ls.length
 |[],rs,h=>by
  obtain rfl:=Option.some.inj h
  rfl
 |l::ls,rs,h=>by
  rw [instAll] at h;cases h1:instL l bs with
  |none=>rw [h1] at h;cases h
  |some r=>
   rw [h1] at h;simp only at h;cases h2:instAll bs ls with
   |none=>rw [h2] at h;cases h
   |some qs=>
    rw [h2] at h;obtain rfl:=Option.some.inj h
    simp [instAll_len ls qs h2]
theorem levG_sm {bs:List Lv} (s:Unit) (k n:Int) (nm:List UInt8) (l:List Lv) (d:Int) (s':Unit) (r:Tm) (h:levG bs s (.mk k n nm l []) d=some (s',r)) (hs:SmT (.mk k n nm l [])):SmT r:=by
 have e:levG bs s (.mk k n nm l []) d=(instAll bs l).map fun ls=>((),Tm.mk k n nm ls []):=by
  show ((instAll bs l).map fun ls=>Tm.mk k n nm ls []).map (fun r=>((),r))=_
  rw [Option.map_map]
  rfl
 rw [e] at h;cases h5:instAll bs l with
 |none=>rw [h5] at h;cases h
 |some ls=>
  rw [h5] at h;cases h
  rw [SmT] at hs ⊢;rw [instAll_len l ls h5];exact hs
theorem levelsO_sm {bs:List Lv} {t y:Tm} (h:levelsO bs t=some y) (hs:SmT t):SmT y:=by
 unfold levelsO levO at h
 split at h
 ·cases h1:rebT (levG bs) () 0 t with
  |none=>rw [h1] at h;cases h
  |some p=>
   obtain ⟨u,x⟩:=p;rw [h1] at h;obtain rfl:=Option.some.inj h;exact reb_sm (g:=levG bs) (levG_sm) h1 hs
 ·cases h
end Go.Proofs.YtdhnlckfcccnlaaGreat
namespace Go.Proofs.YtdhnlckfcccnlaaGreat
open Go Go.RowKit
set_option maxRecDepth 100000
theorem sm_zT:SmT zT:=by rw [zT,SmT];exact ⟨by simp,by simp,by simp,by rw [SmTs];trivial⟩
theorem putO_sm {xa:List Tm} {t r:Tm} (h:putO xa t=some r) (hx:∀ x∈xa,SmT x) (hs:SmT t):SmT r∧nodesT r≤3000:=by
 obtain ⟨-,r1,r2,r3⟩:=putO_val h;unfold putO at h;rw [if_pos ⟨r1,r2⟩] at h;exact puO_sm (fun x hm=>fit_of (hx x hm) (r1 x hm)) (okO_some h).1 hs (rightP_parts r2).2.1
theorem shiftO_sm {b f:Int} {t r:Tm} (h:shiftO b f t=some r) (hs:SmT t):SmT r∧nodesT r≤3000:=by
 unfold shiftO at h
 split at h
 ·obtain ⟨h1,h2⟩:=okO_some h
  exact ⟨(shO_sm h1 hs).1,(rightP_parts h2).2.1⟩
 ·cases h
end Go.Proofs.YtdhnlckfcccnlaaGreat
