import Derived.Test.YtmceocgddaaohaaGreatDoorQGenT
import Derived.Test.YtmceocgddaaohaaGreatDoorQTrmY
import Derived.Test.YtmceocgddaaohaaGreatDoorQTrmZ
namespace Go.Proofs.YtmceocgddaaohaaGreatDoor
open Go Go.RowKit
set_option maxRecDepth 100000
theorem elemStrs:Tryz.prog.underlying 62=some (.slice (Tryz.prog.elem 62)):=by kernel_rfl
theorem run_at_str (B off n cap m:Nat) (hm:m<n) (w:World):(Instr.indexAt 62 (.slice (some ⟨B,off,none⟩) n cap) (.int .i64 (m:Int))).run Tryz.prog w=.ok (.pointer (some ⟨B,off+m,none⟩)) w:=by
 rw [run_indexAt_slice w 62 _ _ _ _ _ elemStrs];have hz:(sizeOf (Tryz.prog.elem 62)).run Tryz.prog w=.ok 1 w:=(by kernel_rfl);rw [if_pos (by omega),hz,Result.andThen_ok,Addr.add_mid,Int.toNat_natCast,Nat.mul_one]
def StrsAt (w:World) (v:Value) (l:List (List UInt8)):Prop:=∃ b o c,v=.slice (some ⟨b,o,none⟩) l.length c∧w.rangeAt b o (l.map strT)
theorem StrsAt.cell {w:World} {b o:Nat} {l:List (List UInt8)} (h:w.rangeAt b o (l.map strT)) {i:Nat} {s:List UInt8} (hi:l[i]?=some s):w.cell? ⟨b,o+i,none⟩=some (strT s):=h i _ (by rw [List.getElem?_map,hi];rfl)
set_option maxHeartbeats 4000000 in
theorem sametexts_walk (a b:List (List UInt8)) (u v:Value) (w:World) (h1:StrsAt w u a) (h2:StrsAt w v b) (sa:a.length≤140737488351232):Calls Tryz.prog 21 #[u,v] w fun e w'=>e=.returned (.bool (decide (a=b)))∧Below w.heap.size w w':=by
 obtain ⟨pb,po,ac,rfl,h1⟩:=h1;obtain ⟨pb2,po2,bc,rfl,h2⟩:=h2;obtain ⟨N,hAN⟩:∃ N,Hid (a.length=N):=⟨_,rfl⟩;obtain ⟨M,hBM⟩:∃ M,Hid (b.length=M):=⟨_,rfl⟩;rw [hAN.out] at sa ⊢;rw [hBM.out] at ⊢;have H1:=hZ h1;have H2:=hZ h2;clear h1 h2
 go_enter Tryz.func21,Tryz.ntmps21
 by_cases hNM:(N:Int)=(M:Int)
 rotate_left
 ·have r0:(!decide ((N:Int)=(M:Int)))=true:=by rw [decide_eq_false hNM];rfl
  go_upto_region 1 with (fail);refine lbeg (opsOf Tryz.f21 1) ?_;refine lnow 0 (.slice (some ⟨pb,po,none⟩) N ac) (some 6) ?_;refine lnow 1 (.int .i64 (N:Int)) (some 7) ?_;refine lnow 2 (.slice (some ⟨pb2,po2,none⟩) M bc) (some 8) ?_;refine lnow 3 (.int .i64 (M:Int)) (some 9) ?_;refine lnow 4 (.bool (!decide ((N:Int)=(M:Int)))) (some 10) ?_;rw [r0];refine ldq 5 ?_;go_wp2;go_ret;exact ⟨by rw [decide_eq_false (fun h=>hNM (by have h1:=hAN.out;have h2:=hBM.out;rw [h] at h1;omega))];rfl,Below.refl _ _⟩
 have r0:(!decide ((N:Int)=(M:Int)))=false:=(by rw [decide_eq_true hNM];rfl);go_upto_region 1 with (fail);refine lbeg (opsOf Tryz.f21 1) ?_;refine lnow 0 (.slice (some ⟨pb,po,none⟩) N ac) (some 6) ?_;refine lnow 1 (.int .i64 (N:Int)) (some 7) ?_;refine lnow 2 (.slice (some ⟨pb2,po2,none⟩) M bc) (some 8) ?_;refine lnow 3 (.int .i64 (M:Int)) (some 9) ?_;refine lnow 4 (.bool (!decide ((N:Int)=(M:Int)))) (some 10) ?_;rw [r0];refine ldq 5 ?_;obtain rfl:N=M:=(by omega);go_upto_region 3 with (fail);refine lbeg (opsOf Tryz.f21 3) ?_;refine lnow 0 (.int .i64 0) (some 5) ?_;refine ldq 1 ?_;go_wp2
 go_loopw [5] (fun iv wr=>∃ i:Nat,i≤N∧iv=.int .i64 (i:Int)∧Hid (a.take i=b.take i)∧Hid (Below w.heap.size w wr)) (fun iv _=>N-(intOf iv).toNat)
 case atStart=>exact ⟨0,Nat.zero_le _,rfl,by rw [Hid];simp,Below.refl _ _⟩
 case round=>
  obtain ⟨i,hi,rfl,EQ,BE⟩:=hrel;by_cases hlt:i<N
  rotate_left
  ·have r1:¬ (i:Int)<(N:Int):=by omega
   have FIN:Hid (decide (a=b)=true):=by
    have h:=EQ.out;rw [List.take_of_length_le (by have:=hAN.out;omega),List.take_of_length_le (by have:=hBM.out;omega)] at h;exact decide_eq_true h
   go_wp2;go_ret;exact ⟨by rw [FIN.out];rfl,BE.out⟩
  have r1:(i:Int)<(N:Int):=(by omega);obtain ⟨x,hx⟩:∃ x,a[i]?=some x:=⟨_,List.getElem?_eq_getElem (by have:=hAN.out;omega)⟩;obtain ⟨y,hy⟩:∃ y,b[i]?=some y:=⟨_,List.getElem?_eq_getElem (by have:=hBM.out;omega)⟩;have HX:Hid (wr.cell? ⟨pb,po+i,none⟩=some (strT x)):=(BE.out.cell (block_lt_of_cell (StrsAt.cell H1.out hx))).trans (StrsAt.cell H1.out hx);have HY:Hid (wr.cell? ⟨pb2,po2+i,none⟩=some (strT y)):=(BE.out.cell (block_lt_of_cell (StrsAt.cell H2.out hy))).trans (StrsAt.cell H2.out hy);have HXI:=hZ hx;have HYI:=hZ hy;clear hx hy;go_upto_region 6 with (fail);refine region_begin (opsOf Tryz.f21 6) (fun W'=>W'=wr.drew) (by kernel_rfl) (by kernel_rfl) 9 (by kernel_rfl) ?_;intro Q' hQN hN;have HXd:Hid (wr.drew.cell? ⟨pb,po+i,none⟩=some (strT x)):=HX.out;have HYd:Hid (wr.drew.cell? ⟨pb2,po2+i,none⟩=some (strT y)):=HY.out;have BD:Hid (Below w.heap.size w wr.drew):=BE.out.drew;generalize wr.drew=wd at HXd HYd BD ⊢;have HSd:wd=wd:=rfl;refine reg_now 0 (.slice (some ⟨pb,po,none⟩) N ac) (some 17) hQN HSd (by kernel_rfl) (by kernel_rfl) (fun w=>by kernel_rfl) ?_;refine reg_now 1 (.int .i64 (i:Int)) (some 18) hQN HSd (by kernel_rfl) (by kernel_rfl) (fun w=>by kernel_rfl) ?_
  refine reg_now 2 (.pointer (some ⟨pb,po+i,none⟩)) (some 19) hQN HSd (by kernel_rfl) (by kernel_rfl) (fun w'=>exec_indexAt 62 (.tmp 17) (.tmp 18) (by kernel_rfl) _ _ _ (by kernel_rfl) (by kernel_rfl) (run_at_str pb po N ac i hlt w')) ?_;refine reg_nowIf 3 (strT x) (some 20) hQN HSd (by kernel_rfl) (by kernel_rfl) (fun w' hw=>by subst hw;exact exec_load_cell 9 (.tmp 19) (by kernel_rfl) (pb) (po+i) (by kernel_rfl) _ (HXd.out) _ Tryz.underlying9 rfl) ?_;refine reg_now 4 (.slice (some ⟨pb2,po2,none⟩) N bc) (some 21) hQN HSd (by kernel_rfl) (by kernel_rfl) (fun w=>by kernel_rfl) ?_;refine reg_now 5 (.int .i64 (i:Int)) (some 22) hQN HSd (by kernel_rfl) (by kernel_rfl) (fun w=>by kernel_rfl) ?_;refine reg_now 6 (.pointer (some ⟨pb2,po2+i,none⟩)) (some 23) hQN HSd (by kernel_rfl) (by kernel_rfl) (fun w'=>exec_indexAt 62 (.tmp 21) (.tmp 22) (by kernel_rfl) _ _ _ (by kernel_rfl) (by kernel_rfl) (run_at_str pb2 po2 N bc i hlt w')) ?_;refine reg_nowIf 7 (strT y) (some 24) hQN HSd (by kernel_rfl) (by kernel_rfl) (fun w' hw=>by subst hw;exact exec_load_cell 9 (.tmp 23) (by kernel_rfl) (pb2) (po2+i) (by kernel_rfl) _ (HYd.out) _ Tryz.underlying9 rfl) ?_;refine reg_nowIf 8 (.bool (!decide (x=y))) (some 25) hQN HSd (by kernel_rfl) (by kernel_rfl) (fun w' hw=>exec_strneT 9 9 (.tmp 20) (.tmp 24) (by kernel_rfl) x y (by kernel_rfl) (by kernel_rfl) (fun _=>rfl)) ?_;refine reg_done (by kernel_rfl) (hN _ _ (lq ?_));by_cases hxy:x=y
  rotate_left
  ·have r2:(!decide (x=y))=true:=by rw [decide_eq_false hxy];rfl
   rw [r2];have FIN:Hid (decide (a=b)=false):=decide_eq_false (ne_of_at HXI.out HYI.out hxy);clear HXd HYd HX HY EQ;go_wp2;go_ret;exact ⟨by rw [FIN.out];rfl,BD.out⟩
  have r2:(!decide (x=y))=false:=(by rw [decide_eq_true hxy];rfl);rw [r2];have NE:Hid (a.take (i+1)=b.take (i+1)):=take_eq_succ EQ.out HXI.out HYI.out hxy;clear HXd HYd HX HY EQ HXI HYI hxy;have bl:=sa;go_wp2;go_roundw
  case rel=>exact ⟨i+1,by omega,by go_num,NE,BD⟩
  case measure=>simp [intOf];omega
def varC (n:Int):List Value:=[.int .i64 1,.int .i64 n,strT [],.slice none 0 0,.slice none 0 0]
def conC (s:List UInt8):List Value:=[.int .i64 4,.int .i64 0,strT s,.slice none 0 0,.slice none 0 0]
def varT (n:Int):Tm:=.mk 1 n [] [] []
def conT (s:List UInt8):Tm:=.mk 4 0 s [] []
theorem nils_at (F:List Nat) (w:World):TmsAt F w [] (.slice none 0 0):=by rw [TmsAt];exact ⟨none,0,rfl⟩
theorem lvs_nil (F:List Nat) (w:World):LvsOff F w (.slice none 0 0) []:=LvsOff.nil F w none 0
theorem var_at (F:List Nat) (w:World) (n:Int):TmAt F w (varT n) (varC n):=TmAt.mk (t:=varT n) (lvs_nil F w) (nils_at F w)
theorem con_at (F:List Nat) (w:World) (s:List UInt8):TmAt F w (conT s) (conC s):=TmAt.mk (t:=conT s) (lvs_nil F w) (nils_at F w)
theorem ones_var (n:Int):∀ u∈varC n,u.oneCell'=true:=by
 intro u hu;simp only [varC,List.mem_cons,List.not_mem_nil,or_false] at hu;rcases hu with rfl|rfl|rfl|rfl|rfl<;>rfl
set_option maxHeartbeats 1000000 in
theorem great_walk {F:List Nat} (t:Tm) (cs:List Value) (w:World) (ht:TmAt F w t cs) (hs:SmT t):Calls Tryz.prog 7 #[.agg cs.toArray] w fun e w'=>e=.returned (.bool (decide (3600<nodesT t)))∧Below w.heap.size w w':=by
 have C5:=hZ ht.len;have HT:=hZ ht;clear ht;obtain ⟨q,hq⟩:∃ q,Hid (w.heap.size=q):=⟨_,rfl⟩
 go_enter Tryz.func7,Tryz.ntmps7
 go_upto_region 0 with (fail);refine lbeg (opsOf Tryz.f7 0) ?_;refine lbox 0 25 (.tmp 0) (cs) (q) (some 1) hq ?_;intro w1 bw1 bew1 hsw1;refine lnow 1 (.bool false) (some 2) ?_;refine ldq 2 ?_;have B1:=hZ bw1;have BE1:Hid (Below w.heap.size w w1):=(by rw [Hid,hq.out];exact bew1);clear bw1 bew1 hsw1;have CALL:=tnodes_walk t cs w1 3600 F (HT.out.below BE1.out) hs (by omega);obtain ⟨m,hm⟩:∃ m:Int,Hid (((min (nodesT t) (3600+1):Nat):Int)=m):=⟨_,rfl⟩;rw [hm.out] at CALL;go_upto_region 1 with (fail);refine lbeg (opsOf Tryz.f7 1) ?_;refine lrl 0 (cs) (some 3) 25 1 (q) 0 (B1.out).whole Tryz.underlying25 (t5Size C5.out) ?_;refine lcal 1 13 #[.agg cs.toArray,.int .i64 3600] (some 4) _ (CALL) ?_;rintro e w2 ⟨rfl,hb2⟩;refine ⟨_,rfl,?_⟩;refine lnow 2 (.bool (decide (m>3600))) (some 5) ?_;refine lnow 3 (.bool (decide (m>3600))) (some 2) ?_;refine ldq 4 ?_;go_wp2;go_ret;refine ⟨?_,BE1.out.trans (hb2.mono BE1.out.size)⟩;rw [← hm.out];show Ending.returned (Value.bool (decide (((min (nodesT t) (3600+1):Nat):Int)>3600)))=_
 congr 2
 rw [decide_eq_decide];omega
end Go.Proofs.YtmceocgddaaohaaGreatDoor
