import Derived.Test.YtmceocgddaaohaaGreatDoorRows
import Derived.Test.YtmceocgddaaohaaGreatDoorQGenT
import Derived.ProofKit
import Derived.OpenShut
import Derived.ChangeOld
import Derived.SizedLaws
import Derived.Deep.Matrix
import Derived.Deep.Slices
import Derived.Deep.DeepHandedRow
import Derived.IntWalk
namespace Go.Proofs.YtmceocgddaaohaaGreatDoor
open Go.ChangeShapes Go.WideShapes Go.ChangeAt Go.RowKit Go.Deep
set_option maxRecDepth 100000
theorem own:ownKnob Tryz.prog.godebug=none:=by kernel_rfl
theorem laidOut:laidOutB Tryz.prog=true:=by kernel_rfl
theorem weights_in {H:Type} {P:Program} {e:TypeId}:∀ {l:List (DataW H)} {d:DataW H},d∈l→∀ n∈d.weights P e,n∈DataW.weightsAll P e l
 |_::_,d,h,n,hn=>by
  rw [DataW.weightsAll,List.mem_append];rcases List.mem_cons.1 h with rfl|h
  ·exact Or.inl hn
  ·exact Or.inr (weights_in h n hn)
theorem addr_plain {w:World} {a:Addr} {v:Value} (h:w.cell? (a.add 0)=some v):a=⟨a.block,a.off,none⟩:=by
 have:a.spot=none:=World.cell?_spot (by simpa [Addr.add] using h);cases a;simp_all
theorem ints_of_array {H : Type} {enc : TypeId × Value → H} {P : Program} {w : World} {base : Nat} {spare : Nat → Bool} {held : Bool} {fuel : Nat} {t e : TypeId} {n : Nat} {k : IntKind} {cs : List Value} {x : DataW H × List MemPlace}
    (ht:P.underlying t=some (.array n e)) (he:P.underlying e=some (.int k)) (ce:P.cellsOf e=1) (ct:P.cellsOf t=n) (h:DataW.trod enc P w base spare held fuel t cs=some x):∃ zs:List Int,cs=ints k zs∧zs.length=n:=by
 obtain ⟨xs,m,rfl,-,hl,hxl,hi⟩:=DataW.trod_array ht h;rw [ct] at hl;refine ⟨cs.map valOf,?_,by rw [List.length_map,hl]⟩
 apply List.ext_getElem?
 intro i;by_cases hin:i<n
 ·have h1:=hi i hin
  rw [ce,Nat.mul_one,List.getElem?_eq_getElem (by omega)] at h1;obtain ⟨z,hz,_⟩:=DataW.trod_int he h1;have h2:cs[i]?=some (.int k z):=by
   have:((cs.drop i).take 1)[0]?=some (.int k z):=by rw [hz];rfl
   simpa [List.getElem?_take,List.getElem?_drop] using this
  rw [h2]
  simp [ints,h2,valOf]
 ·rw [List.getElem?_eq_none (by omega),List.getElem?_eq_none (by rw [ints_length,List.length_map];omega)]
theorem ints_of_array' {H : Type} {enc : TypeId × Value → H} {P : Program} {w : World} {base : Nat} {spare : Nat → Bool} {held : Bool} {fuel : Nat} {t e : TypeId} {n : Nat} {k : IntKind} {cs : List Value} {x : DataW H × List MemPlace}
    (ht:P.underlying t=some (.array n e)) (he:P.underlying e=some (.int k)) (ce:P.cellsOf e=1) (ct:P.cellsOf t=n) (h:DataW.trod enc P w base spare held fuel t cs=some x):∃ zs:List Int,cs=ints k zs∧zs.length=n∧∀ z∈zs,(Lit.int k z).wf=true:=by
 obtain ⟨zs,rfl,hz⟩:=ints_of_array ht he ce ct h;refine ⟨zs,rfl,hz,fun z hzm=>?_⟩
 obtain ⟨i,hi,rfl⟩:=List.mem_iff_getElem.1 hzm;obtain ⟨xs,m,rfl,-,hl,hxl,hix⟩:=DataW.trod_array ht h;have h1:=hix i (by omega);rw [ce,Nat.mul_one,List.getElem?_eq_getElem (by omega)] at h1;obtain ⟨z,hz1,_,hw⟩:=DataW.trod_int he h1;have h2:((ints k zs).drop i).take 1=[.int k zs[i]]:=by
  apply List.ext_getElem?
  intro j;cases j with
  |zero=>simp [List.getElem?_drop,ints,hi]
  |succ j=>simp [List.getElem?_take]
 rw [h2] at hz1;have:zs[i]=z:=(by simpa using hz1);rw [this];exact hw
end Go.Proofs.YtmceocgddaaohaaGreatDoor
namespace Go.Proofs.YtmceocgddaaohaaGreatDoor
open Go Go.RowKit
set_option maxRecDepth 100000
structure Lv where
 b:Int
 p:List Int
deriving DecidableEq
def Lv.zs (l:Lv):List Int:=l.b::l.p
def rightL (l:Lv):Bool:=(decide (0≤l.b)&&decide (l.b≤100))&&l.p.all fun x=>decide (-1≤x)&&decide (x≤l.b)
theorem right_b {l:Lv} (h:rightL l=true):0≤l.b∧l.b≤100:=by
 simp only [rightL,Bool.and_eq_true,decide_eq_true_eq] at h;exact h.1
theorem right_p {l:Lv} (h:rightL l=true) {x:Int} (hx:x∈l.p):-1≤x∧x≤l.b:=by
 simp only [rightL,Bool.and_eq_true,List.all_eq_true,decide_eq_true_eq] at h;exact h.2 x hx
theorem right_at {l:Lv} (h:rightL l=true) {i:Nat} (hi:i<l.p.length):-1≤l.p.getD i 0∧l.p.getD i 0≤l.b:=by
 rw [List.getD_eq_getElem?_getD,List.getElem?_eq_getElem hi];exact right_p h (List.getElem_mem hi)
theorem right_mk {l:Lv} (h0:0≤l.b) (h1:l.b≤100) (h:∀ x∈l.p,-1≤x∧x≤l.b):rightL l=true:=by
 simp only [rightL,Bool.and_eq_true,List.all_eq_true,decide_eq_true_eq];exact ⟨⟨h0,h1⟩,h⟩
def numL (n:Int):Lv:=⟨n,[-1,-1,-1,-1]⟩
theorem right_num {n:Int} (h0:0≤n) (h1:n≤100):rightL (numL n)=true:=by
 refine right_mk h0 h1 fun x hx=>?_
 simp [numL] at hx ⊢
 omega
def clampL (v:Int):Int:=min (max v 0) 1048576
def valUp (l:Lv) (vals:List Int):Nat→Int
 |0=>l.b
 |k+1=>if l.p.getD k 0=-1 then valUp l vals k else max (valUp l vals k) (clampL (vals.getD k 0)+l.p.getD k 0)
def max2 (a b:Lv):Lv:=⟨max a.b b.b,List.zipWith max a.p b.p⟩
def maxRow:List Lv→Lv→Lv
 |[],g=>g
 |l::ls,g=>maxRow ls (max2 g l)
def maxL (ls:List Lv):Lv:=if ls.all rightL then maxRow ls (numL 0) else numL (-1)
theorem mem_at {us:List Int} {x:Int} (h:x∈us):∃ i,i<us.length∧us.getD i 0=x:=by
 obtain ⟨i,hi,e⟩:=List.getElem_of_mem h;exact ⟨i,hi,by simp [List.getD_eq_getElem?_getD,hi,e]⟩
theorem max2_len {a b:Lv} (ha:a.p.length=4) (hb:b.p.length=4):(max2 a b).p.length=4:=by simp [max2,ha,hb]
theorem right_all {l:Lv} (hl:l.p.length=4) (h0:0≤l.b) (h1:l.b≤100) (h:∀ i,i<4→-1≤l.p.getD i 0∧l.p.getD i 0≤l.b):rightL l=true:=by
 refine right_mk h0 h1 fun x hx=>?_;obtain ⟨i,hi,rfl⟩:=mem_at hx;exact h i (by omega)
theorem maxL_wrong {ls:List Lv} (h:ls.all rightL=false):maxL ls=numL (-1):=by
 rw [maxL,if_neg (by rw [h];decide)]
def zeroL:Lv:=⟨0,[0,0,0,0]⟩
def widthUp (l:Lv):Nat→Nat
 |0=>0
 |k+1=>if l.p.getD k 0=-1 then widthUp l k else k+1
def widthL (l:Lv):Nat:=widthUp l 4
end Go.Proofs.YtmceocgddaaohaaGreatDoor
namespace Go.Proofs.YtmceocgddaaohaaGreatDoor
open Go Go.RowKit
set_option maxRecDepth 100000
theorem bool_eq {a b:Bool} (h:a=b):Ending.returned (.bool a)=.returned (.bool b):=by rw [h]
theorem Lv.zlen {l:Lv} (h:l.p.length=4):(ints .i64 l.zs).length=5:=by rw [ints_length];simp [Lv.zs,h]
theorem lvSize {l:Lv} (h:l.p.length=4):(Tryz.prog.info? 80).map (·.size)=some (ints .i64 l.zs).length:=by rw [Lv.zlen h];kernel_rfl
theorem p4Size {p:List Int} (h:p.length=4):(Tryz.prog.info? 78).map (·.size)=some (ints .i64 p).length:=by rw [ints_length,h];kernel_rfl
theorem Blk.plus {w:World} {b:Nat} {t:TypeId} {l:Lv} (h:Blk w b t (ints .i64 l.zs)):w.rangeAt b 1 (ints .i64 l.p):=fun j v hv=>by
 refine h.cell (j:=1+j) ?_;rw [Nat.add_comm];exact hv
theorem Blk.base {w:World} {b:Nat} {t:TypeId} {l:Lv} (h:Blk w b t (ints .i64 l.zs)):w.cell? ⟨b,0,none⟩=some (.int .i64 l.b):=h.cell rfl
theorem exec_index {P : Program} {a : Act} {w : World} {op : Oper} (t e : TypeId) (x ix : Operand) (ho : op.op = .index t x ix) (n : Nat) (k : IntKind) (ht : P.underlying t = some (.array n e)) (he : P.underlying e = some (.int k)) (hs : (P.info? e).map (·.size) = some 1)
    (l:List Int) (hl:l.length=n) (hx:a.eval x=.agg (ints k l).toArray) (i:Nat) (hi:a.eval ix=.int .i64 (i:Int)) (h:i<n):(execOp a.eval op).run P w=.ok (.value (.int k (l.getD i 0))) w:=by
 obtain ⟨inf,hi1,hi2⟩:=Option.map_eq_some_iff.1 hs;have hp:=run_part_ints w he l i (by omega);have hr:(Instr.index t (.agg (ints k l).toArray) (.int .i64 (i:Int))).run P w=.ok (.int k (l.getD i 0)) w:=by
  unfold Instr.index;simp only [Sem.run_bind,run_underlying ht,asIntOf,Sem.run_pure,Result.andThen_ok];have hn:(0:Int)≤(i:Int)∧(i:Int)<(n:Int):=(by omega);simp only [hn,and_self,if_true,Sem.run_bind,Int.toNat_natCast]
  simpa [sizeOf,typeInfo,hi1,hi2] using hp
 unfold execOp;simp only [ho,hx,hi,Sem.run_bind,hr,Result.andThen_ok]
 rfl
set_option maxHeartbeats 1000000 in
theorem inb_walk (n:Int) (w:World):Calls Tryz.prog 102 #[.int .i64 n] w fun e w'=>e=.returned (.bool (decide (0≤n)&&decide (n≤100)))∧w=w':=by
 by_cases h0:0≤n
 ·by_cases h1:n≤100
  ·go_enter Tryz.func102,Tryz.ntmps102
   go_wp2;go_ret;exact ⟨by simp [h0,h1],rfl⟩
  ·go_enter Tryz.func102,Tryz.ntmps102
   go_wp2;go_ret;exact ⟨by simp;omega,rfl⟩
 ·go_enter Tryz.func102,Tryz.ntmps102
  go_wp2;go_ret;exact ⟨by simp;omega,rfl⟩
theorem inb_yes (n:Int) (w:World) (h0:0≤n) (h1:n≤100):Calls Tryz.prog 102 #[.int .i64 n] w fun e w'=>e=.returned (.bool true)∧w=w':=
 (inb_walk n w).mono fun _ _ ⟨he,hw⟩=>⟨by rw [he];simp [h0,h1],hw⟩
theorem inb_no (n:Int) (w:World) (h:n<0∨100<n):Calls Tryz.prog 102 #[.int .i64 n] w fun e w'=>e=.returned (.bool false)∧w=w':=
 (inb_walk n w).mono fun _ _ ⟨he,hw⟩=>⟨by rw [he];simp;omega,hw⟩
set_option maxHeartbeats 1000000 in
theorem right_walk (l:Lv) (hl:l.p.length=4) (w:World):Calls Tryz.prog 76 #[.agg (ints .i64 l.zs).toArray] w fun e w'=>e=.returned (.bool (rightL l))∧Below w.heap.size w w':=by
 obtain ⟨q,hq⟩:∃ q,Hid (w.heap.size=q):=⟨_,rfl⟩;have HL:=hZ hl;clear hl
 go_enter Tryz.func76,Tryz.ntmps76
 go_upto_region 0 with (fail);refine lbeg (opsOf Tryz.f76 0) ?_;refine lbox 0 80 (.tmp 0) (ints .i64 l.zs) q (some 1) hq ?_;intro w1 b1 be1 hs1;refine lnow 1 (.bool false) (some 2) ?_;refine ldn 2 ?_;have B1:=hZ b1;have BE:Hid (Below w.heap.size w w1):=(by rw [Hid,hq.out];exact be1);clear b1 be1 hs1;generalize hact:Act.put _ (some 2) _=act;simp only [Act.put,sA,sC,sZ] at hact;subst hact;go_upto_region 1 with (fail);refine lbeg (opsOf Tryz.f76 1) ?_;refine lnow 0 (.pointer (some ⟨q,0,none⟩)) (some 5) ?_;refine lcl 1 (.int .i64 l.b) (some 6) 3 5 q 0 B1.out.base Tryz.underlying3 ?_;refine lcal 2 102 #[.int .i64 l.b] (some 7) _ (inb_walk _ _) ?_;rintro e w' ⟨rfl,rfl⟩;obtain ⟨ib,hib⟩:∃ x,Hid ((decide (0≤l.b)&&decide (l.b≤100))=x):=⟨_,rfl⟩;rw [hib.out];refine ⟨_,rfl,?_⟩;refine lnow 3 (.bool (!ib)) (some 8) ?_;refine ldq 4 ?_;cases ib with
 |false=>
  have NO:Hid (rightL l=false):=(by rw [Hid,rightL,hib.out,Bool.false_and]);go_wp2;go_ret;exact ⟨bool_eq NO.out.symm,BE.out⟩
 |true=>
  have IB:Hid (0≤l.b∧l.b≤100):=(by unfold Hid;have:=hib.out;simpa using this);clear hib;go_upto_region 3 with (fail);refine lbeg (opsOf Tryz.f76 3) ?_;refine lnow 0 (.pointer (some ⟨q,1,none⟩)) (some 9) ?_;refine lrl 1 (ints .i64 l.p) (some 10) 78 9 q 1 B1.out.plus Tryz.underlying78 (p4Size HL.out) ?_;refine lnow 2 (.int .i64 0) (some 11) ?_;refine ldq 3 ?_;go_wp2
  go_loop [11] (fun iv=>∃ k:Nat,k≤4∧iv=.int .i64 (k:Int)∧Hid (∀ i,i<k→-1≤l.p.getD i 0∧l.p.getD i 0≤l.b)) (fun iv=>4-(intOf iv).toNat)
  case atStart=>exact ⟨0,Nat.zero_le _,rfl,fun i hi=>by omega⟩
  case round=>
   obtain ⟨k,hk,rfl,hR⟩:=hrel;by_cases hlt:k<4
   ·have r1:(k:Int)<4:=by omega
    go_upto_region 5 with (fail);refine lbeg (opsOf Tryz.f76 5) ?_;refine lnowP 0 (.int .i64 (l.p.getD k 0)) (some 13) (exec_index 78 3 (.tmp 10) (.tmp 11) (by kernel_rfl) 4 .i64 Tryz.underlying78 Tryz.underlying3 (by kernel_rfl) l.p HL.out (by kernel_rfl) k (by kernel_rfl) hlt) ?_;refine lnow 1 (.int .i64 (l.p.getD k 0)) (some 4) ?_;refine ldq 2 ?_;obtain ⟨x,hx⟩:∃ x,Hid (l.p.getD k 0=x):=⟨_,rfl⟩;rw [hx.out];have c0:=B1.out.base;obtain ⟨bb,hbb⟩:∃ x,Hid (l.b=x):=⟨_,rfl⟩;rw [hbb.out] at c0;have NO:Hid (¬ (-1≤x∧x≤bb)→rightL l=false):=fun h=>by
     rw [Bool.eq_false_iff];intro hr;have:=right_at hr (i:=k) (by rw [HL.out];exact hlt);rw [hx.out,hbb.out] at this;exact h this
    by_cases h2:x < -1
    ·go_wp2
     go_ret;exact ⟨bool_eq (NO.out (by omega)).symm,BE.out⟩
    ·by_cases h3:bb<x
     ·go_wp2
      go_ret;exact ⟨bool_eq (NO.out (by omega)).symm,BE.out⟩
     ·have hR2:Hid (∀ i,i<k+1→-1≤l.p.getD i 0∧l.p.getD i 0≤l.b):=fun i hi=>by
       by_cases e:i=k
       ·subst e
        rw [hx.out,hbb.out];omega
       ·exact hR.out i (by omega)
      go_wp2
      go_round
      case rel=>exact ⟨k+1,by omega,by go_num,hR2⟩
      case measure=>simp [intOf];omega
   ·have r1:¬ (k:Int)<4:=by omega
    have YES:Hid (rightL l=true):=right_all HL.out IB.out.1 IB.out.2 (fun i hi=>hR.out i (by omega))
    go_wp2;go_ret;exact ⟨bool_eq YES.out.symm,BE.out⟩
set_option maxHeartbeats 1000000 in
theorem width_walk (l:Lv) (hl:l.p.length=4) (w:World):Calls Tryz.prog 77 #[.agg (ints .i64 l.zs).toArray] w fun e w'=>e=.returned (.int .i64 (widthL l:Int))∧Below w.heap.size w w':=by
 obtain ⟨q,hq⟩:∃ q,Hid (w.heap.size=q):=⟨_,rfl⟩;have HL:=hZ hl;clear hl
 go_enter Tryz.func77,Tryz.ntmps77
 go_upto_region 0 with (fail);refine lbeg (opsOf Tryz.f77 0) ?_;refine lbox 0 80 (.tmp 0) (ints .i64 l.zs) q (some 1) hq ?_;intro w1 b1 be1 hs1;refine lnow 1 (.int .i64 0) (some 2) ?_;refine ldn 2 ?_;have B1:=hZ b1;have BE:Hid (Below w.heap.size w w1):=(by rw [Hid,hq.out];exact be1);clear b1 be1 hs1;generalize hact:Act.put _ (some 2) _=act;simp only [Act.put,sA,sC,sZ] at hact;subst hact;go_upto_region 2 with (fail);refine lbeg (opsOf Tryz.f77 2) ?_;refine lnow 0 (.pointer (some ⟨q,1,none⟩)) (some 6) ?_;refine lrl 1 (ints .i64 l.p) (some 7) 78 6 q 1 B1.out.plus Tryz.underlying78 (p4Size HL.out) ?_;refine lnow 2 (.int .i64 0) (some 8) ?_;refine ldq 3 ?_;go_wp2
 go_loop [3,8] (fun wv iv=>∃ k:Nat,k≤4∧iv=.int .i64 (k:Int)∧wv=.int .i64 (widthUp l k:Int)) (fun _ iv=>4-(intOf iv).toNat)
 case atStart=>exact ⟨0,Nat.zero_le _,rfl,rfl⟩
 case round=>
  obtain ⟨k,hk,rfl,rfl⟩:=hrel;by_cases hlt:k<4
  ·have r1:(k:Int)<4:=by omega
   go_upto_region 4 with (fail);refine lbeg (opsOf Tryz.f77 4) ?_;refine lnow 0 (.int .i64 (k:Int)) (some 10) ?_;refine lnowP 1 (.int .i64 (l.p.getD k 0)) (some 11) (exec_index 78 3 (.tmp 7) (.tmp 8) (by kernel_rfl) 4 .i64 Tryz.underlying78 Tryz.underlying3 (by kernel_rfl) l.p HL.out (by kernel_rfl) k (by kernel_rfl) hlt) ?_;refine lnow 2 (.int .i64 (k:Int)) (some 4) ?_;refine lnow 3 (.int .i64 (l.p.getD k 0)) (some 5) ?_;refine ldq 4 ?_;obtain ⟨x,hx⟩:∃ x,Hid (l.p.getD k 0=x):=⟨_,rfl⟩;rw [hx.out];obtain ⟨u,hu⟩:∃ x,Hid (widthUp l k=x):=⟨_,rfl⟩;rw [hu.out];by_cases h2:x=-1
   ·have e2:Hid (widthUp l (k+1)=u):=by rw [Hid,widthUp,hx.out,if_pos h2,hu.out]
    subst h2;go_wp2
    go_round
    case rel=>exact ⟨k+1,by omega,by go_num,by rw [e2.out]⟩
    case measure=>simp [intOf];omega
   ·have e2:Hid (widthUp l (k+1)=k+1):=by rw [Hid,widthUp,hx.out,if_neg h2]
    go_wp2
    go_round
    case rel=>exact ⟨k+1,by omega,by go_num,by rw [e2.out];go_num⟩
    case measure=>simp [intOf];omega
  ·have r1:¬ (k:Int)<4:=by omega
   obtain rfl:k=4:=(by omega);go_wp2;go_ret;exact ⟨rfl,BE.out⟩
def z4:List Int:=[0,0,0,0]
def z5:List Int:=[0,0,0,0,0]
theorem zeroA4:(Tryz.prog.info? 78).map (·.zero)=some (some (.agg (ints .i64 z4).toArray)):=by kernel_rfl
theorem zeroLv:(Tryz.prog.info? 80).map (·.zero)=some (some (.agg (ints .i64 z5).toArray)):=by kernel_rfl
theorem sizeInt:(Tryz.prog.info? 3).map (·.size)=some 1:=by kernel_rfl
theorem run_at_arr4 (g o p:Nat) (hp:p<4) (w:World):(Instr.indexAt 78 (.pointer (some ⟨g,o,none⟩)) (.int .i64 (p:Int))).run Tryz.prog w=.ok (.pointer (some ⟨g,o+p,none⟩)) w:=by
 have hz:(sizeOf (Tryz.prog.elem 78)).run Tryz.prog w=.ok 1 w:=(by kernel_rfl);have hA:Tryz.prog.arrayLen 78=4:=(by kernel_rfl);have ht:Tryz.prog.underlying 78=some (.array (Tryz.prog.arrayLen 78) (Tryz.prog.elem 78)):=(by kernel_rfl);rw [run_indexAt_array w 78 _ _ _ ht,if_pos (by rw [hA];omega),hz,Result.andThen_ok,Addr.add_mid,Int.toNat_natCast,Nat.mul_one]
theorem lin_cel {P : Program} {ops : Array Oper} {Q : Exit → Act → World → Prop} {a : Act} {w : World} (i : Nat) (ty : TypeId) (x y : Operand) (b o : Nat) (t : TypeId) (cs : List Value) (v : Value) (hi : (ops[i]?.isSome && Region.wanted (opAt ops i) (yielded ops a.tmps)) = true) (hd : (opAt ops i).dst = none)
    (ho:(opAt ops i).op=.store ty x y) (hx:a.eval x=.pointer (some ⟨b,o,none⟩)) (hy:a.eval y=v) (hb:Blk w b t cs) (hl:o<cs.length) (hz:(P.info? ty).map (·.size)=some 1) (hv1:v.cells=#[v]) (hv:v.oneCell'=true)
    (h:∀ w',Blk w' b t (cs.set o v)→Upd b w w'→Hid (w'.heap.size=w.heap.size)→wpFrom P ops Q (i+1) (a.put none undef) w'):wpFrom P ops Q i a w:=
 lin_store i (w.setCell ⟨b,o,none⟩ v) hi hd (exec_store_cell ty x y ho b o v hx hy t cs hb hl hz hv1 hv) (h _ (hb.set o v) ((Upd.refl b w).setCell o v) (by unfold Hid;simp [World.setCell]))
def nopK (k:Nat):List Int:=List.replicate k (-1)++List.replicate (4-k) 0
theorem nopK_set {k:Nat} (h:k<4):(ints .i64 (nopK k)).set k (.int .i64 (-1))=ints .i64 (nopK (k+1)):=by
 match k,h with
 |0,_=>rfl
 |1,_=>rfl
 |2,_=>rfl
 |3,_=>rfl
theorem nopK_len {k:Nat} (h:k≤4):(nopK k).length=4:=by simp [nopK];omega
set_option maxHeartbeats 1000000 in
theorem nop_walk (w:World):Calls Tryz.prog 182 #[] w fun e w'=>e=.returned (.agg (ints .i64 [-1,-1,-1,-1]).toArray)∧Below w.heap.size w w':=by
 obtain ⟨q,hq⟩:∃ q,Hid (w.heap.size=q):=⟨_,rfl⟩;rw [hq.out]
 go_enter Tryz.func182,Tryz.ntmps182
 go_upto_region 0 with (fail);refine lbeg (opsOf Tryz.f182 0) ?_;refine lin_alloc 0 78 (ints .i64 z4) (q) (some 0) (by kernel_rfl) (by kernel_rfl) (by kernel_rfl) zeroA4 hq ?_;intro w1 b1 be1 hs1;refine ldn 1 ?_;have B1:=hZ b1;have BE1:=hZ be1;clear b1 be1;generalize hact:Act.put _ (some 0) _=act;simp only [Act.put,List.setIfInBounds_toArray,List.set_cons_zero] at hact;subst hact;go_upto_region 1 with (fail);refine lbeg (opsOf Tryz.f182 1) ?_;refine lin_alloc 0 78 (ints .i64 z4) (q+1) (some 1) (by kernel_rfl) (by kernel_rfl) (by kernel_rfl) zeroA4 hs1 ?_;intro w2 b2 be2 hs2;refine ldn 1 ?_;have B2:Hid (Blk w2 (q+1) 78 (ints .i64 (nopK 0))):=b2;have BE2:Hid (Below q w w2):=BE1.out.trans (be2.mono (Nat.le_succ _));have A2:Hid (Blk w2 q 78 (ints .i64 z4)):=B1.out.below be2 (Nat.lt_succ_self _);clear b2 be2 hs1 hs2 B1 BE1;generalize hact:Act.put _ (some 1) _=act;simp only [Act.put,sA,sC,sZ] at hact;subst hact;go_wp2
 go_loopw [3] (fun iv wr=>∃ k:Nat,k≤4∧iv=.int .i64 (k:Int)∧Hid (Blk wr (q+1) 78 (ints .i64 (nopK k)))∧Hid (Blk wr q 78 (ints .i64 z4))∧Hid (Below q w wr)) (fun iv _=>4-(intOf iv).toNat)
 case atStart=>exact ⟨0,Nat.zero_le _,rfl,B2,A2,BE2⟩
 case round=>
  obtain ⟨k,hk,rfl,BK,AK,BEK⟩:=hrel;clear B2 A2 BE2;by_cases hlt:k<4
  ·have r1:(k:Int)<4:=by omega
   have BQ:Hid (q≤wr.heap.size):=Nat.le_of_lt AK.out.lt;go_upto_region 4 with (fail);refine lbeg (opsOf Tryz.f182 4) ?_;refine lnow 0 (.int .i64 (k:Int)) (some 5) ?_;refine lnow 1 (.int .i64 (k:Int)) (some 2) ?_;refine ldq 2 ?_;go_upto_region 5 with (fail);refine lbeg (opsOf Tryz.f182 5) ?_;refine lnow 0 (.int .i64 (k:Int)) (some 6) ?_;refine lix 1 (.pointer (some ⟨q+1,0+k,none⟩)) (some 7) 78 1 6 (run_at_arr4 (q+1) 0 k hlt _) ?_;rw [Nat.zero_add];refine lin_cel 2 3 (.tmp 7) (.const (.int .i64 (-1))) (q+1) (k) 78 (ints .i64 (nopK k)) (.int .i64 (-1)) (by kernel_rfl) (by kernel_rfl) (by kernel_rfl) (by kernel_rfl) (by kernel_rfl) BK.out (by rw [ints_length,nopK_len hk];exact hlt) sizeInt rfl rfl ?_;intro w3 b3 u3 hs3;rw [nopK_set hlt] at b3;refine ldn 3 ?_;have B3:=hZ b3;have A3:Hid (Blk w3 q 78 (ints .i64 z4)):=u3.blk AK.out (by omega);have BE3:Hid (Below q w w3):=u3.below BEK.out (by omega) BQ.out;clear b3 u3 hs3 BK AK BEK BQ;generalize hact:Act.put _ none undef=act;simp only [Act.put,sA,sC,sZ] at hact;subst hact;go_wp2;go_roundw
   case rel=>exact ⟨k+1,by omega,by go_num,B3,A3,BE3⟩
   case measure=>simp [intOf];omega
  ·have r1:¬ (k:Int)<4:=by omega
   obtain rfl:k=4:=(by omega);go_upto_region 7 with (fail);refine lbeg (opsOf Tryz.f182 7) ?_;refine lin_load 0 78 (.tmp 1) (q+1) _ (ints .i64 (nopK 4)) (some 9) (by kernel_rfl) (by kernel_rfl) (by kernel_rfl) (by kernel_rfl) BK.out _ Tryz.underlying78 rfl (p4Size (nopK_len (Nat.le_refl _))) ?_;refine lput 1 78 (.tmp 0) (.tmp 9) (q) _ (ints .i64 z4) (ints .i64 (nopK 4)) AK.out (rfl) (p4Size (nopK_len (Nat.le_refl _))) (ints_oneCell _ _) ?_;intro w4 b4 u4;refine ldn 2 ?_;have B4:=hZ b4;have BE4:Hid (Below q w w4):=u4.below BEK.out (Nat.le_refl _) (Nat.le_of_lt AK.out.lt);clear b4 u4 BK AK BEK;generalize hact:Act.put _ none undef=act;simp only [Act.put,sA,sC,sZ] at hact;subst hact;go_wp2;refine bodyPost_ret (v:=.agg (ints .i64 (nopK 4)).toArray) ?_ rfl ⟨rfl,BE4.out⟩;exact results_cell_row (g:=q) (t:=78) (cs:=(ints .i64 (nopK 4)).toArray) (fr:=(0,0)) Tryz.results182 _ _ _ rfl B4.out Tryz.underlying78 rfl (by rw [List.size_toArray];exact p4Size (nopK_len (Nat.le_refl _)))
theorem run_build_lv4 (b p0 p1 p2 p3:Int) (w:World):(Instr.build 80 #[(0,.int .i64 b),(1,.agg (ints .i64 [p0,p1,p2,p3]).toArray)]).run Tryz.prog w=.ok (.agg (ints .i64 [b,p0,p1,p2,p3]).toArray) w:=by kernel_rfl
theorem run_build_lv {b:Int} {p:List Int} (h:p.length=4) (w:World):(Instr.build 80 #[(0,.int .i64 b),(1,.agg (ints .i64 p).toArray)]).run Tryz.prog w=.ok (.agg (ints .i64 (b::p)).toArray) w:=
 match p,h with
 |[p0,p1,p2,p3],_=>run_build_lv4 b p0 p1 p2 p3 w
set_option maxHeartbeats 1000000 in
theorem num_walk (n:Int) (w:World):Calls Tryz.prog 172 #[.int .i64 n] w fun e w'=>e=.returned (.agg (ints .i64 (numL n).zs).toArray)∧Below w.heap.size w w':=by
 obtain ⟨q,hq⟩:∃ q,Hid (w.heap.size=q):=⟨_,rfl⟩;rw [hq.out]
 go_enter Tryz.func172,Tryz.ntmps172
 go_upto_region 0 with (fail);refine lbeg (opsOf Tryz.f172 0) ?_;refine lin_alloc 0 80 (ints .i64 z5) (q) (some 2) (by kernel_rfl) (by kernel_rfl) (by kernel_rfl) zeroLv hq ?_;intro w1 b1 be1 hs1;refine ldn 1 ?_;have B1:=hZ b1;have BE1:=hZ be1;have S1:Hid (q≤w1.heap.size):=(by rw [Hid,hs1.out];exact Nat.le_succ _);clear b1 be1 hs1;generalize hact:Act.put _ (some 2) _=act;simp only [Act.put,sA,sC,sZ] at hact;subst hact;go_upto_region 1 with (fail);refine lbeg (opsOf Tryz.f172 1) ?_;refine lnow 0 (.int .i64 n) (some 3) ?_;refine lcal 1 182 #[] (some 4) _ (nop_walk _) ?_;rintro e w2 ⟨rfl,hb2⟩;refine ⟨_,rfl,?_⟩;refine lnowP 2 (.agg (ints .i64 (numL n).zs).toArray) (some 5) (exec_of (Instr.build 80 #[(0,.int .i64 n),(1,.agg (ints .i64 [-1,-1,-1,-1]).toArray)]) _ (by kernel_rfl) (run_build_lv rfl _)) ?_;refine lput 3 80 (.tmp 2) (.tmp 5) (q) _ (ints .i64 z5) (ints .i64 (numL n).zs) (B1.out.below hb2 B1.out.lt) (rfl) (lvSize (l:=numL n) rfl) (ints_oneCell _ _) ?_;intro w3 b3 u3;refine ldn 4 ?_;have B3:=hZ b3;have BE3:Hid (Below q w w3):=u3.below (BE1.out.trans (hb2.mono S1.out)) (Nat.le_refl _) (Nat.le_trans S1.out hb2.size);clear b3 u3 hb2;generalize hact:Act.put _ none undef=act;simp only [Act.put,sA,sC,sZ] at hact;subst hact;go_wp2;refine bodyPost_ret (v:=.agg (ints .i64 ((numL n).zs)).toArray) ?_ rfl ⟨rfl,BE3.out⟩
 exact results_cell_row (g:=q) (t:=80) (cs:=(ints .i64 ((numL n).zs)).toArray) (fr:=(0,0)) Tryz.results172 _ _ _ rfl B3.out Tryz.underlying80 rfl (by rw [List.size_toArray];exact lvSize (l:=numL n) rfl)
def LvsIn (w:World) (v:Value) (ls:List Lv):Prop:=
 ∃ a cap,v=.slice a ls.length cap∧ls.length≤cap∧ls.length≤140737488355328∧(∀ l∈ls,l.p.length=4)∧(0<ls.length→∃ pb po,a=some ⟨pb,po,none⟩∧pb<w.heap.size∧∀ (i:Nat) (l:Lv),ls[i]?=some l→w.rangeAt pb (po+5*i) (ints .i64 l.zs))
theorem LvsIn.below {B:Nat} {w w':World} {v:Value} {ls:List Lv} (h:LvsIn w v ls) (hb:Below B w w') (hB:w.heap.size≤B):LvsIn w' v ls:=by
 obtain ⟨a,cap,h1,h2,h0,hl,h3⟩:=h;refine ⟨a,cap,h1,h2,h0,hl,fun hp=>?_⟩
 obtain ⟨pb,po,h4,h5,h6⟩:=h3 hp;exact ⟨pb,po,h4,Nat.lt_of_lt_of_le h5 hb.size,fun i l hi j u hu=>by rw [hb.cell (p:=⟨pb,_,none⟩) (Nat.lt_of_lt_of_le h5 hB)];exact h6 i l hi j u hu⟩
theorem elemLvs:Tryz.prog.underlying 22=some (.slice (Tryz.prog.elem 22)):=by kernel_rfl
theorem run_at_lv (B off n cap m:Nat) (hm:m<n) (w:World):(Instr.indexAt 22 (.slice (some ⟨B,off,none⟩) n cap) (.int .i64 (m:Int))).run Tryz.prog w=.ok (.pointer (some ⟨B,off+5*m,none⟩)) w:=by
 rw [run_indexAt_slice w 22 _ _ _ _ _ elemLvs];have hz:(sizeOf (Tryz.prog.elem 22)).run Tryz.prog w=.ok 5 w:=(by kernel_rfl);rw [if_pos (by omega),hz,Result.andThen_ok,Addr.add_mid,Int.toNat_natCast,Nat.mul_comm]
theorem exec_max {P:Program} {a:Act} {w:World} {op:Oper} (ts:Array TypeId) (t:TypeId) (x y:Int) (h:execOp a.eval op=(Builtin.max_ ts t #[.int .i64 x,.int .i64 y] >>= fun x=>pure (.value x))):(execOp a.eval op).run P w=.ok (.value (.int .i64 (max x y))) w:=by
 refine exec_of _ _ h ?_;rw [run_max_int2]
 congr 2
 split<;>omega
theorem maxRow_snoc:∀ (ls:List Lv) (l g:Lv),maxRow (ls++[l]) g=max2 (maxRow ls g) l
 |[],_,_=>rfl
 |x::ls,l,g=>maxRow_snoc ls l (max2 g x)
theorem maxRow_len:∀ (ls:List Lv) (g:Lv),g.p.length=4→(∀ l∈ls,l.p.length=4)→(maxRow ls g).p.length=4
 |[],_,h,_=>h
 |x::ls,g,h,hl=>maxRow_len ls _ (max2_len h (hl x (by simp))) (fun l h=>hl l (by simp [h]))
def maxPre (g l:List Int) (k:Nat):List Int:=(List.zipWith max g l).take k++g.drop k
theorem maxPre_set {x v:Int} {g l:List Int} (hg:g.length=4) (hl:l.length=4) {k:Nat} (hk:k<4) (hv:max (g.getD k 0) (l.getD k 0)=v):(ints .i64 (x::maxPre g l k)).set (1+k) (.int .i64 v)=ints .i64 (x::maxPre g l (k+1)):=by
 subst hv
 match g,hg,l,hl,k,hk with
 |[_,_,_,_],_,[_,_,_,_],_,0,_=>rfl
 |[_,_,_,_],_,[_,_,_,_],_,1,_=>rfl
 |[_,_,_,_],_,[_,_,_,_],_,2,_=>rfl
 |[_,_,_,_],_,[_,_,_,_],_,3,_=>rfl
theorem maxPre_cell {x:Int} {g l:List Int} (hg:g.length=4) (hl:l.length=4) {k:Nat} (hk:k<4):(ints .i64 (x::maxPre g l k))[1+k]?=some (.int .i64 (g.getD k 0)):=by
 match g,hg,l,hl,k,hk with
 |[_,_,_,_],_,[_,_,_,_],_,0,_=>rfl
 |[_,_,_,_],_,[_,_,_,_],_,1,_=>rfl
 |[_,_,_,_],_,[_,_,_,_],_,2,_=>rfl
 |[_,_,_,_],_,[_,_,_,_],_,3,_=>rfl
theorem maxPre_all {g l:List Int} (hg:g.length=4) (hl:l.length=4):maxPre g l 4=List.zipWith max g l:=by
 rw [maxPre,List.take_of_length_le (by simp [hg,hl]),List.drop_of_length_le (by omega),List.append_nil]
theorem maxPre_len {g l:List Int} (hg:g.length=4) (hl:l.length=4) {k:Nat} (hk:k≤4):(maxPre g l k).length=4:=by simp [maxPre,hg,hl];omega
set_option maxHeartbeats 2000000 in
theorem max_walk (v:Value) (ls:List Lv) (w:World) (hv:LvsIn w v ls):Calls Tryz.prog 174 #[v] w fun e w'=>e=.returned (.agg (ints .i64 (maxL ls).zs).toArray)∧Below w.heap.size w w':=by
 obtain ⟨q,hq⟩:∃ q,Hid (w.heap.size=q):=⟨_,rfl⟩;have HV:=hZ hv;obtain ⟨va,vc,rfl,-,hN,hl4,hvp⟩:=id hv;obtain ⟨n,hn⟩:∃ n,Hid (ls.length=n):=⟨_,rfl⟩;rw [hn.out] at HV hN hvp ⊢;rw [hq.out];have L4:=hZ hl4;have VP:=hZ hvp;clear hv hl4 hvp
 go_enter Tryz.func174,Tryz.ntmps174
 go_upto_region 0 with (fail);refine lbeg (opsOf Tryz.f174 0) ?_;refine lin_alloc 0 80 (ints .i64 z5) (q) (some 2) (by kernel_rfl) (by kernel_rfl) (by kernel_rfl) zeroLv hq ?_;intro w1 b1 be1 hs1;refine ldn 1 ?_;have B1:=hZ b1;have BE1:=hZ be1;have S1:Hid (q≤w1.heap.size):=(by rw [Hid,hs1.out];exact Nat.le_succ _);clear b1 be1 hs1;generalize hact:Act.put _ (some 2) _=act;simp only [Act.put,sA,sC,sZ] at hact;subst hact;go_upto_region 1 with (fail);refine lbeg (opsOf Tryz.f174 1) ?_;refine lcal 0 172 #[.int .i64 0] (some 8) _ (num_walk 0 _) ?_;rintro e w2 ⟨rfl,hb2⟩;have B2:=hZ (B1.out.below hb2 B1.out.lt);have BE2:Hid (Below q w w2):=BE1.out.trans (hb2.mono S1.out);obtain ⟨g,hg⟩:∃ g,Hid (w2.heap.size=g):=⟨_,rfl⟩;have GQ:Hid (q<g):=(by rw [Hid,← hg.out];exact B2.out.lt);clear hb2 B1 BE1 S1;refine ⟨_,rfl,?_⟩;refine lin_alloc 1 80 (ints .i64 z5) (g) (some 3) (by kernel_rfl) (by kernel_rfl) (by kernel_rfl) zeroLv hg ?_;intro w3 b3 be3 hs3;refine lput 2 80 (.tmp 3) (.tmp 8) (g) _ (ints .i64 z5) (ints .i64 (numL 0).zs) b3 (rfl) (lvSize (l:=numL 0) rfl) (ints_oneCell _ _) ?_;intro w4 b4 u4;refine ldn 3 ?_;have G4:Hid (Blk w4 g 80 (ints .i64 (maxRow (ls.take 0) (numL 0)).zs)):=b4;have Z4:Hid (Blk w4 q 80 (ints .i64 z5)):=u4.blk (B2.out.below be3 GQ.out) (by have:=GQ.out;omega);have BE4:Hid (Below q w w4):=u4.below (BE2.out.trans (be3.mono (Nat.le_of_lt GQ.out))) (Nat.le_of_lt GQ.out) (by rw [hs3.out];have:=GQ.out;omega)
 clear b3 be3 hs3 b4 u4 B2 BE2;generalize hact:Act.put _ none undef=act;simp only [Act.put,sA,sC,sZ] at hact;subst hact;go_wp2
 go_loopw [11] (fun iv wr=>∃ i:Nat,i≤n∧iv=.int .i64 (i:Int)∧Hid ((ls.take i).all rightL=true)∧Hid (Blk wr g 80 (ints .i64 (maxRow (ls.take i) (numL 0)).zs))∧Hid (Blk wr q 80 (ints .i64 z5))∧Hid (Below q w wr)) (fun iv _=>n-(intOf iv).toNat)
 case atStart=>exact ⟨0,Nat.zero_le _,rfl,rfl,G4,Z4,BE4⟩
 case round=>
  obtain ⟨i,hi,rfl,RT,GB,ZB,BEB⟩:=hrel;clear G4 Z4 BE4;by_cases hil:i<n
  ·have r1:(i:Int)<(n:Int):=by omega
   obtain ⟨l,hl⟩:∃ l,ls[i]?=some l:=⟨_,List.getElem?_eq_getElem (by rw [hn.out];exact hil)⟩;have HL:Hid (l.p.length=4):=L4.out l (List.mem_of_getElem? hl);have TK:Hid (ls.take (i+1)=ls.take i++[l]):=(by rw [Hid,List.take_add_one,hl];rfl);obtain ⟨pb,po,eva,hpb,hrg⟩:=VP.out (by omega);subst eva;have RG:Hid (∀ W,Below q w W→W.rangeAt pb (po+5*i) (ints .i64 l.zs)):=fun W hW j u hu=>by rw [hW.cell (p:=⟨pb,_,none⟩) (by rw [← hq.out];exact hpb)];exact hrg i l hl j u hu
   have GR:Hid ((maxRow (ls.take i) (numL 0)).p.length=4):=maxRow_len _ _ rfl (fun x hx=>L4.out x (List.mem_of_mem_take hx))
   have SN:Hid (maxRow (ls.take (i+1)) (numL 0)=max2 (maxRow (ls.take i) (numL 0)) l):=(by rw [Hid,TK.out,maxRow_snoc]);have AR:Hid ((ls.take (i+1)).all rightL=((ls.take i).all rightL&&rightL l)):=(by rw [Hid,TK.out,List.all_append];simp);obtain ⟨G,hG⟩:∃ G,Hid (maxRow (ls.take i) (numL 0)=G):=⟨_,rfl⟩;rw [hG.out] at GB GR SN;obtain ⟨t5,ht5⟩:∃ g,Hid (wr.heap.size=g):=⟨_,rfl⟩;have T5:Hid (q<t5∧g<t5):=(by rw [Hid,← ht5.out];exact ⟨ZB.out.lt,GB.out.lt⟩);clear hl hrg TK hpb;go_upto_region 4 with (fail);refine lbeg (opsOf Tryz.f174 4) ?_;refine lix 0 (.pointer (some ⟨pb,po+5*i,none⟩)) (some 13) 22 9 11 (run_at_lv pb po n vc i hil _) ?_;refine lrl 1 (ints .i64 l.zs) (some 14) 80 13 pb (po+5*i) (RG.out _ BEB.out) Tryz.underlying80 (lvSize HL.out) ?_;refine lin_alloc 2 80 (ints .i64 z5) (t5) (some 5) (by kernel_rfl) (by kernel_rfl) (by kernel_rfl) zeroLv ht5 ?_;intro w5 b5 be5 hs5;refine lput 3 80 (.tmp 5) (.tmp 14) (t5) _ (ints .i64 z5) (ints .i64 l.zs) b5 ((by rw [Lv.zlen HL.out];rfl)) (lvSize HL.out) (ints_oneCell _ _) ?_;intro w6 b6 u6;refine ldn 4 ?_;have L6:=hZ b6;have G6:Hid (Blk w6 g 80 (ints .i64 G.zs)):=u6.blk (GB.out.below be5 T5.out.2) (by have:=T5.out;omega);have Z6:Hid (Blk w6 q 80 (ints .i64 z5)):=u6.blk (ZB.out.below be5 T5.out.1) (by have:=T5.out;omega)
   have BE6:Hid (Below q w w6):=u6.below (BEB.out.trans (be5.mono (Nat.le_of_lt T5.out.1))) (Nat.le_of_lt T5.out.1) (by rw [hs5.out];have:=T5.out;omega);clear b5 be5 hs5 b6 u6 GB ZB BEB ht5;generalize hact:Act.put _ none undef=act;simp only [Act.put,sA,sC,sZ] at hact;subst hact;go_upto_region 5 with (fail);refine lbeg (opsOf Tryz.f174 5) ?_;refine lin_load 0 80 (.tmp 5) (t5) _ (ints .i64 l.zs) (some 15) (by kernel_rfl) (by kernel_rfl) (by kernel_rfl) (by kernel_rfl) L6.out _ Tryz.underlying80 rfl (lvSize HL.out) ?_;refine lcal 1 76 #[.agg (ints .i64 l.zs).toArray] (some 16) _ (right_walk l HL.out _) ?_;rintro e w7 ⟨rfl,hb7⟩;obtain ⟨rb,hrb⟩:∃ x,Hid (rightL l=x):=⟨_,rfl⟩;rw [hrb.out];refine ⟨_,rfl,?_⟩;refine lnow 2 (.bool (!rb)) (some 17) ?_;refine ldn 3 ?_;have L7:=hZ (L6.out.below hb7 L6.out.lt);have G7:=hZ (G6.out.below hb7 G6.out.lt);have Z7:=hZ (Z6.out.below hb7 Z6.out.lt);have BE7:Hid (Below q w w7):=BE6.out.trans (hb7.mono (Nat.le_of_lt Z6.out.lt));clear hb7 L6 G6 Z6 BE6;generalize hact:Act.put _ (some 17) _=act;simp only [Act.put,sA,sC,sZ] at hact;subst hact;cases rb with
   |false=>
    have NO:Hid (maxL ls=numL (-1)):=maxL_wrong (by
     rw [Bool.eq_false_iff];intro hc;have:=List.all_eq_true.1 hc;have h2:(ls.take (i+1)).all rightL=true:=List.all_eq_true.2 (fun x hx=>this x (List.mem_of_mem_take hx))
     rw [AR.out,hrb.out,Bool.and_false] at h2;cases h2)
    go_upto_region 6 with (fail);refine lbeg (opsOf Tryz.f174 6) ?_;refine lcal 0 172 #[.int .i64 (-1)] (some 18) _ (num_walk (-1) _) ?_;rintro e w8 ⟨rfl,hb8⟩;refine ⟨_,rfl,?_⟩;refine lput 1 80 (.tmp 2) (.tmp 18) (q) _ (ints .i64 z5) (ints .i64 (numL (-1)).zs) (Z7.out.below hb8 Z7.out.lt) (rfl) (lvSize (l:=numL (-1)) rfl) (ints_oneCell _ _) ?_;intro w9 b9 u9;refine ldn 2 ?_;have B9:=hZ b9;have BE9:Hid (Below q w w9):=u9.below (BE7.out.trans (hb8.mono (Nat.le_of_lt Z7.out.lt))) (Nat.le_refl _) (Nat.le_of_lt (Nat.lt_of_lt_of_le Z7.out.lt hb8.size));clear b9 u9 hb8;generalize hact:Act.put _ none undef=act;simp only [Act.put,sA,sC,sZ] at hact;subst hact;go_wp2;refine bodyPost_ret (v:=.agg (ints .i64 ((numL (-1)).zs)).toArray) ?_ rfl ⟨by rw [NO.out],BE9.out⟩;exact results_cell_row (g:=q) (t:=80) (cs:=(ints .i64 ((numL (-1)).zs)).toArray) (fr:=(0,0)) Tryz.results174 _ _ _ rfl B9.out Tryz.underlying80 rfl (by rw [List.size_toArray];exact lvSize (l:=numL (-1)) rfl)
   |true=>
    go_upto_region 7 with (fail);refine lbeg (opsOf Tryz.f174 7) ?_;refine lnow 0 (.pointer (some ⟨g,0,none⟩)) (some 19) ?_;refine lcl 1 (.int .i64 G.b) (some 20) 3 19 g 0 G7.out.base Tryz.underlying3 ?_;refine lnow 2 (.pointer (some ⟨t5,0,none⟩)) (some 21) ?_;refine lcl 3 (.int .i64 l.b) (some 22) 3 21 t5 0 L7.out.base Tryz.underlying3 ?_;refine lnowP 4 (.int .i64 (max G.b l.b)) (some 23) (exec_max #[3,3] 3 G.b l.b (by kernel_rfl)) ?_;refine lnow 5 (.pointer (some ⟨g,0,none⟩)) (some 24) ?_;refine lin_cel 6 3 (.tmp 24) (.tmp 23) (g) (0) 80 (ints .i64 G.zs) (.int .i64 (max G.b l.b)) (by kernel_rfl) (by kernel_rfl) (by kernel_rfl) (by kernel_rfl) (by kernel_rfl) G7.out (by rw [Lv.zlen GR.out];omega) sizeInt rfl rfl ?_;intro w8 b8 u8 hs8;refine ldn 7 ?_;have G8:Hid (Blk w8 g 80 (ints .i64 (max G.b l.b::maxPre G.p l.p 0))):=b8;have L8:Hid (Blk w8 t5 80 (ints .i64 l.zs)):=u8.blk L7.out (by have:=T5.out;omega);have Z8:Hid (Blk w8 q 80 (ints .i64 z5)):=u8.blk Z7.out (by have:=GQ.out;omega);have BE8:Hid (Below q w w8):=u8.below BE7.out (Nat.le_of_lt GQ.out) (Nat.le_of_lt Z7.out.lt);clear b8 u8 hs8 L7 G7 Z7 BE7;generalize hact:Act.put _ none undef=act;simp only [Act.put,sA,sC,sZ] at hact;subst hact;go_upto_region 8 with (fail);refine lbeg (opsOf Tryz.f174 8) ?_;refine lnow 0 (.pointer (some ⟨t5,1,none⟩)) (some 25) ?_;refine lrl 1 (ints .i64 l.p) (some 26) 78 25 t5 1 L8.out.plus Tryz.underlying78 (p4Size HL.out) ?_
    refine lnow 2 (.int .i64 0) (some 27) ?_;refine ldn 3 ?_;clear L8;generalize hact:Act.put _ (some 27) _=act;simp only [Act.put,sA,sC,sZ] at hact;subst hact;go_wp2
    go_loopw [27] (fun iv wr=>∃ k:Nat,k≤4∧iv=.int .i64 (k:Int)∧Hid (Blk wr g 80 (ints .i64 (max G.b l.b::maxPre G.p l.p k)))∧Hid (Blk wr q 80 (ints .i64 z5))∧Hid (Below q w wr)) (fun iv _=>4-(intOf iv).toNat)
    case atStart=>exact ⟨0,Nat.zero_le _,rfl,G8,Z8,BE8⟩
    case round=>
     obtain ⟨k,hk,rfl,BK,ZK,BEK⟩:=hrel;clear G8 Z8 BE8;by_cases hlt:k<4
     ·have r2:(k:Int)<4:=by omega
      go_upto_region 10 with (fail);refine lbeg (opsOf Tryz.f174 10) ?_;refine lnow 0 (.int .i64 (k:Int)) (some 29) ?_;refine lnowP 1 (.int .i64 (l.p.getD k 0)) (some 30) (exec_index 78 3 (.tmp 26) (.tmp 27) (by kernel_rfl) 4 .i64 Tryz.underlying78 Tryz.underlying3 (by kernel_rfl) l.p HL.out (by kernel_rfl) k (by kernel_rfl) hlt) ?_;refine lnow 2 (.int .i64 (k:Int)) (some 6) ?_;refine lnow 3 (.int .i64 (l.p.getD k 0)) (some 7) ?_;refine ldq 4 ?_;go_upto_region 11 with (fail);refine lbeg (opsOf Tryz.f174 11) ?_;refine lnow 0 (.int .i64 (k:Int)) (some 31) ?_;refine lnow 1 (.int .i64 (k:Int)) (some 32) ?_;refine lnow 2 (.pointer (some ⟨g,1,none⟩)) (some 33) ?_;refine lix 3 (.pointer (some ⟨g,1+k,none⟩)) (some 34) 78 33 32 (run_at_arr4 g 1 k hlt _) ?_;refine lcl 4 (.int .i64 (G.p.getD k 0)) (some 35) 3 34 g (1+k) (BK.out.cell (maxPre_cell GR.out HL.out hlt)) Tryz.underlying3 ?_;refine lnow 5 (.int .i64 (l.p.getD k 0)) (some 36) ?_;refine lnowP 6 (.int .i64 (max (G.p.getD k 0) (l.p.getD k 0))) (some 37) (exec_max #[3,3] 3 (G.p.getD k 0) (l.p.getD k 0) (by kernel_rfl)) ?_;refine lnow 7 (.pointer (some ⟨g,1,none⟩)) (some 38) ?_;refine lix 8 (.pointer (some ⟨g,1+k,none⟩)) (some 39) 78 38 31 (run_at_arr4 g 1 k hlt _) ?_
      refine lin_cel 9 3 (.tmp 39) (.tmp 37) (g) (1+k) 80 (ints .i64 (max G.b l.b::maxPre G.p l.p k)) (.int .i64 (max (G.p.getD k 0) (l.p.getD k 0))) (by kernel_rfl) (by kernel_rfl) (by kernel_rfl) (by kernel_rfl) (by kernel_rfl) BK.out (by rw [ints_length,List.length_cons,maxPre_len GR.out HL.out hk];omega) sizeInt rfl rfl ?_;intro w9 b9 u9 hs9;rw [maxPre_set GR.out HL.out hlt rfl] at b9;refine ldn 10 ?_;have B9:=hZ b9;have Z9:Hid (Blk w9 q 80 (ints .i64 z5)):=u9.blk ZK.out (by have:=GQ.out;omega);have BE9:Hid (Below q w w9):=u9.below BEK.out (Nat.le_of_lt GQ.out) (Nat.le_of_lt ZK.out.lt);clear b9 u9 hs9 BK ZK BEK;generalize hact:Act.put _ none undef=act;simp only [Act.put,sA,sC,sZ] at hact;subst hact;go_wp2;go_roundw
      case rel=>exact ⟨k+1,by omega,by go_num,B9,Z9,BE9⟩
      case measure=>simp [intOf];omega
     ·have r2:¬ (k:Int)<4:=by omega
      obtain rfl:k=4:=(by omega);have BL:Hid (Blk wr g 80 (ints .i64 (maxRow (ls.take (i+1)) (numL 0)).zs)):=by
       rw [Hid,SN.out];have:=BK.out;rw [maxPre_all GR.out HL.out] at this;exact this
      have RT2:Hid ((ls.take (i+1)).all rightL=true):=(by rw [Hid,AR.out,RT.out,hrb.out];rfl);clear BK;go_wp2;go_roundw
      case rel=>exact ⟨i+1,by omega,by go_num,RT2,BL,ZK,BEK⟩
      case measure=>simp [intOf];omega
  ·have r1:¬ (i:Int)<(n:Int):=by omega
   have EQ:Hid (maxRow (ls.take i) (numL 0)=maxL ls):=by
    have h1:ls.take i=ls:=List.take_of_length_le (by have:=hn.out;omega);have h2:=RT.out;rw [h1] at h2;rw [Hid,h1,maxL,if_pos h2]
   have ML:Hid ((maxL ls).p.length=4):=by rw [Hid,← EQ.out];exact maxRow_len _ _ rfl (fun x hx=>L4.out x (List.mem_of_mem_take hx))
   rw [EQ.out] at GB;go_upto_region 14 with (fail);refine lbeg (opsOf Tryz.f174 14) ?_;refine lin_load 0 80 (.tmp 3) (g) _ (ints .i64 (maxL ls).zs) (some 42) (by kernel_rfl) (by kernel_rfl) (by kernel_rfl) (by kernel_rfl) GB.out _ Tryz.underlying80 rfl (lvSize ML.out) ?_;refine lput 1 80 (.tmp 2) (.tmp 42) (q) _ (ints .i64 z5) (ints .i64 (maxL ls).zs) ZB.out ((by rw [Lv.zlen ML.out];rfl)) (lvSize ML.out) (ints_oneCell _ _) ?_;intro w9 b9 u9;refine ldn 2 ?_;have B9:=hZ b9;have BE9:Hid (Below q w w9):=u9.below BEB.out (Nat.le_refl _) (Nat.le_of_lt ZB.out.lt);clear b9 u9;generalize hact:Act.put _ none undef=act;simp only [Act.put,sA,sC,sZ] at hact;subst hact;go_wp2;refine bodyPost_ret (v:=.agg (ints .i64 ((maxL ls).zs)).toArray) ?_ rfl ⟨rfl,BE9.out⟩;exact results_cell_row (g:=q) (t:=80) (cs:=(ints .i64 ((maxL ls).zs)).toArray) (fr:=(0,0)) Tryz.results174 _ _ _ rfl B9.out Tryz.underlying80 rfl (by rw [List.size_toArray];exact lvSize ML.out)
end Go.Proofs.YtmceocgddaaohaaGreatDoor
namespace Go.Proofs.YtmceocgddaaohaaGreatDoor
open Go Go.RowKit
set_option maxRecDepth 100000
noncomputable def lvF0:Field:=(Tryz.prog.fieldsOf 80)[0]!
noncomputable def lvF1:Field:=(Tryz.prog.fieldsOf 80)[1]!
theorem lvFs:(Tryz.prog.fieldsOf 80).toList=[lvF0,lvF1]:=by kernel_rfl
theorem lvF0n : lvF0.name = "Base" := by kernel_rfl
theorem lvF1n : lvF1.name = "Plus" := by kernel_rfl
theorem lvF0t:lvF0.type=3:=by kernel_rfl
theorem lvF1t:lvF1.type=78:=by kernel_rfl
theorem lvF0o:lvF0.offset=0:=by kernel_rfl
theorem lvF1o:lvF1.offset=1:=by kernel_rfl
theorem run_part_p {b:Int} {p:List Int} (h:p.length=4) (w:World):(part 78 (ints .i64 (b::p)).toArray 1).run Tryz.prog w=.ok (.agg (ints .i64 p).toArray) w:=by
 have hag:(isAgg 78).run Tryz.prog w=.ok true w:=(by kernel_rfl);have hz:(sizeOf 78).run Tryz.prog w=.ok 4 w:=(by kernel_rfl);unfold part;simp only [Sem.run_bind,hag,Result.andThen_ok,if_true,hz,Sem.run_pure];have e:(ints .i64 (b::p)).toArray.extract 1 (1+4)=(ints .i64 p).toArray:=
  match p,h with
  |[_,_,_,_],_=>rfl
 rw [e]
theorem run_eq_lv {a b:Lv} (ha:a.p.length=4) (hb:b.p.length=4) (w:World):(Op.equalIn 10000 80 (.agg (ints .i64 a.zs).toArray) (.agg (ints .i64 b.zs).toArray)).run Tryz.prog w=.ok (decide (a=b)) w:=by
 rw [show (10000 : Nat) = 9999 + 1 from rfl, run_equalIn_struct w 9999 _ _ _ (by kernel_rfl) (by kernel_rfl), lvFs];have h1 := run_part_ints w Tryz.underlying3 a.zs 0 (by simp [Lv.zs]);have h2 := run_part_ints w Tryz.underlying3 b.zs 0 (by simp [Lv.zs]);have h3 := run_part_p (b := a.b) ha w;have h4 := run_part_p (b := b.b) hb w;have h5 := run_equalIn_int w 9998 3 .i64 .i64 a.b b.b Tryz.underlying3;have h6 : (Op.equalIn 9999 78 (.agg (ints .i64 a.p).toArray) (.agg (ints .i64 b.p).toArray)).run Tryz.prog w = .ok (decide (a.p = b.p)) w := run_equalIn_ints w 9997 Tryz.underlying78 Tryz.underlying3 sizeInt a.p b.p ha hb;have e1 : a.zs.getD 0 0 = a.b := rfl;have e2 : b.zs.getD 0 0 = b.b := rfl;have n0 : lvF0.name ≠ "_" := (by rw [lvF0n]; decide);have n1 : lvF1.name ≠ "_" := (by rw [lvF1n]; decide);rw [e1] at h1;rw [e2] at h2;have h5' : (Op.equalIn 9999 3 (.int .i64 a.b) (.int .i64 b.b)).run Tryz.prog w = .ok (a.b == b.b) w := h5;unfold Op.eqFields;rw [if_pos n0];simp only [Sem.run_bind, lvF0t, lvF0o, h1, h2, Result.andThen_ok, h5'];cases hq : (a.b == b.b)
 ·rw [if_pos (by rfl)]
  rw [decide_eq_false (fun e=>by rw [e] at hq;simp at hq)]
  rfl
 ·have e:a.b=b.b:=by simpa using hq
  rw [if_neg (by decide)];unfold Op.eqFields;rw [if_pos n1];have h3':(part 78 (ints .i64 a.zs).toArray 1).run Tryz.prog w=.ok (.agg (ints .i64 a.p).toArray) w:=h3;have h4':(part 78 (ints .i64 b.zs).toArray 1).run Tryz.prog w=.ok (.agg (ints .i64 b.p).toArray) w:=h4;simp only [Sem.run_bind,lvF1t,lvF1o,h3',h4',Result.andThen_ok,h6];by_cases hp:a.p=b.p
  ·rw [decide_eq_true hp,if_neg (by decide)]
   have:a=b:=by
    obtain ⟨ab,ap⟩:=a;obtain ⟨bb,bp⟩:=b;simp only at e hp;rw [e,hp]
   rw [decide_eq_true this]
   rfl
  ·rw [decide_eq_false hp,if_pos (by rfl)]
   rw [decide_eq_false (fun e=>hp (by rw [e]))]
   rfl
end Go.Proofs.YtmceocgddaaohaaGreatDoor
namespace Go.Proofs.YtmceocgddaaohaaGreatDoor
open Go Go.RowKit
set_option maxRecDepth 100000
section
variable {P:Program} {ops:Array Oper} {Q:Exit→Act→World→Prop} {S:World→Prop} {fuel:Nat} {listed:Array Bool} {a:Act} {w:World}
theorem lin_row (i : Nat) (t : TypeId) (cs : List Value) (q n : Nat) (d : Option Tmp) (hi : (ops[i]?.isSome && Region.wanted (opAt ops i) (yielded ops a.tmps)) = true) (hd : (opAt ops i).dst = d) (hq : Hid (w.heap.size = q))
    (hrun:(execOp a.eval (opAt ops i)).run P w=.ok (.value (.slice (some ⟨w.heap.size,0,none⟩) n n)) (w.alloc (.cells cs.toArray t)))
    (h:∀ w',Blk w' q t cs→Below q w w'→Hid (w'.heap.size=q+1)→wpFrom P ops Q (i+1) (a.put d (.slice (some ⟨q,0,none⟩) n n)) w'):wpFrom P ops Q i a w:=by
 obtain rfl:=hq.out;exact lin_value i _ d _ hi hd hrun (h _ (Blk.new w t cs) ((Below.refl _ _).alloc (Nat.le_refl _) _) (by unfold Hid;simp))
theorem reg_row (i : Nat) (t : TypeId) (cs : List Value) (q n : Nat) (d : Option Tmp) (hi : (ops[i]?.isSome && (Region.ready .any ops listed == [i]) && Region.wanted (opAt ops i) (yielded ops a.tmps)) = true) (hd : (opAt ops i).dst = d) (hq : Hid (w.heap.size = q))
    (hrun:(execOp a.eval (opAt ops i)).run P w=.ok (.value (.slice (some ⟨w.heap.size,0,none⟩) n n)) (w.alloc (.cells cs.toArray t)))
    (h:∀ w',Blk w' q t cs→Below q w w'→Hid (w'.heap.size=q+1)→S w'∧wpAnyH P .any ops Q S fuel (listed.setIfInBounds i true) (a.put d (.slice (some ⟨q,0,none⟩) n n)) w'):wpAnyH P .any ops Q S (fuel+1) listed a w:=by
 obtain rfl:=hq.out;obtain ⟨h1,h2⟩:=h _ (Blk.new w t cs) ((Below.refl _ _).alloc (Nat.le_refl _) _) (by unfold Hid;simp);exact reg_value i _ d _ hi hd hrun h1 h2
end
theorem run_build_lvs1l (a0 a1 a2 a3 a4:Int) (w:World):(Instr.buildSlice 22 1 #[(0,.agg (ints .i64 [a0,a1,a2,a3,a4]).toArray)]).run Tryz.prog w=.ok (.slice (some ⟨w.heap.size,0,none⟩) 1 1) (w.alloc (.cells (ints .i64 [a0,a1,a2,a3,a4]).toArray 80)):=by kernel_rfl
theorem run_build_lvs1 {a:Lv} (ha:a.p.length=4) (w:World):(Instr.buildSlice 22 1 #[(0,.agg (ints .i64 a.zs).toArray)]).run Tryz.prog w=.ok (.slice (some ⟨w.heap.size,0,none⟩) 1 1) (w.alloc (.cells (ints .i64 a.zs).toArray 80)):=
 match a,ha with
 |⟨a0,[a1,a2,a3,a4]⟩,_=>run_build_lvs1l a0 a1 a2 a3 a4 w
theorem elemInts:Tryz.prog.underlying 197=some (.slice (Tryz.prog.elem 197)):=by kernel_rfl
theorem run_at_ints (B off n cap m:Nat) (hm:m<n) (w:World):(Instr.indexAt 197 (.slice (some ⟨B,off,none⟩) n cap) (.int .i64 (m:Int))).run Tryz.prog w=.ok (.pointer (some ⟨B,off+m,none⟩)) w:=by
 rw [run_indexAt_slice w 197 _ _ _ _ _ elemInts];have hz:(sizeOf (Tryz.prog.elem 197)).run Tryz.prog w=.ok 1 w:=(by kernel_rfl);rw [if_pos (by omega),hz,Result.andThen_ok,Addr.add_mid,Int.toNat_natCast,Nat.mul_one]
theorem plus_cell {w:World} {b:Nat} {t:TypeId} {l:Lv} (h:Blk w b t (ints .i64 l.zs)) (hl:l.p.length=4) {k:Nat} (hk:k<4):w.cell? ⟨b,1+k,none⟩=some (.int .i64 (l.p.getD k 0)):=by
 refine h.plus k _ ?_;rw [ints_getD (by omega)]
end Go.Proofs.YtmceocgddaaohaaGreatDoor
