import Derived.Test.YtmceocgddaaohaaGreatDoorQGenT
import Derived.Test.YtmceocgddaaohaaGreatDoorQTrmK
namespace Go.Proofs.YtmceocgddaaohaaGreatDoor
open Go Go.RowKit
set_option maxRecDepth 100000
def words16:List (List UInt8):=[[80,114,111,112],[84,121,112,101],[102,117,110],[97,108,108],[108,101,116],[105,110],[111,102],[119,105,116,104],[97,120,105,111,109],[100,101,102],[116,104,101,111,114,101,109],[102,97,109,105,108,121],[117,48],[117,49],[117,50],[117,51]]
def reservedB (s:List UInt8):Bool:=decide (s∈words16)
def wordB (s:List UInt8):Bool:=decide (s.length≤32)&&!reservedB s&&partsB true s
theorem str_beqT (xs ys:List UInt8):((⟨xs.toArray⟩:ByteArray).toList==(⟨ys.toArray⟩:ByteArray).toList)=decide (xs=ys):=by
 rw [ByteArray.toList_eq,ByteArray.toList_eq];by_cases h:xs=ys
 ·subst h;simp
 ·rw [decide_eq_false h]
  simpa using h
theorem exec_streqT {P:Program} {a:Act} {w:World} {op:Oper} (t t2:TypeId) (x y:Operand) (ho:op.op=.binOp .eql t x y t2) (xs ys:List UInt8) (ex:a.eval x=strT xs) (ey:a.eval y=strT ys) (hg:∀ w,(eqGuard .eql t x y (strT xs) (strT ys)).run P w=.ok () w):(execOp a.eval op).run P w=.ok (.value (.bool (decide (xs=ys)))) w:=by
 have h:(binOp .eql t (strT xs) (strT ys)).run P w=.ok (.bool (decide (xs=ys))) w:=by
  unfold strT;rw [binOp_string_eql,str_beqT]
  rfl
 unfold execOp;simp only [ho,ex,ey,Sem.run_bind,hg,Result.andThen_ok,h]
 rfl
theorem exec_strneT {P:Program} {a:Act} {w:World} {op:Oper} (t t2:TypeId) (x y:Operand) (ho:op.op=.binOp .neq t x y t2) (xs ys:List UInt8) (ex:a.eval x=strT xs) (ey:a.eval y=strT ys) (hg:∀ w,(eqGuard .neq t x y (strT xs) (strT ys)).run P w=.ok () w):(execOp a.eval op).run P w=.ok (.value (.bool (!decide (xs=ys)))) w:=by
 have h:(binOp .neq t (strT xs) (strT ys)).run P w=.ok (.bool (!decide (xs=ys))) w:=by
  unfold strT;rw [binOp_string_neq,str_beqT]
  rfl
 unfold execOp;simp only [ho,ex,ey,Sem.run_bind,hg,Result.andThen_ok,h]
 rfl
theorem exec_stridx {a:Act} {w:World} {op:Oper} (x ix:Operand) (ho:op.op=.index 9 x ix) (l:List UInt8) (ex:a.eval x=strT l) (i:Nat) (ei:a.eval ix=.int .i64 (i:Int)) (c:UInt8) (hc:l[i]?=some c):(execOp a.eval op).run Tryz.prog w=.ok (.value (.int .u8 (c.toNat:Int))) w:=by
 have hl:i<l.length:=(List.getElem?_eq_some_iff.1 hc).1;have hr:(Instr.index 9 (strT l) (.int .i64 (i:Int))).run Tryz.prog w=.ok (.int .u8 (c.toNat:Int)) w:=by
  unfold strT;rw [run_index_string w 9 _ _ _ Tryz.underlying9,dif_pos (by show (0:Int)≤(i:Int)∧(i:Int)<(l.length:Int);omega)];have e:(⟨l.toArray⟩:ByteArray)[((i:Int)).toNat]'(by show i<l.length;exact hl)=c:=(List.getElem?_eq_some_iff.1 hc).2;rw [e]
 unfold execOp;simp only [ho,ex,ei,Sem.run_bind,hr,Result.andThen_ok]
 rfl
theorem byte_eq (c:UInt8) (n:Nat) (hn:n<256):c=UInt8.ofNat n↔c.toNat=n:=by
 constructor
 ·rintro rfl
  simp
  omega
 ·intro h
  rw [← h]
  simp
theorem letter_walk (x:Int) (w:World):Calls Tryz.prog 91 #[.int .u8 x] w fun e w'=>e=.returned (.bool (decide ((97≤x∧x≤122)∨(65≤x∧x≤90))))∧w'=w:=by
 by_cases h1:97≤x<;>by_cases h2:x≤122<;>by_cases h3:65≤x<;>by_cases h4:x≤90<;>
  (go_enter Tryz.func91,Tryz.ntmps91
   go_wp2;go_ret;exact ⟨by simp [h1,h2,h3,h4],rfl⟩)
theorem digit_walkT (x:Int) (w:World):Calls Tryz.prog 92 #[.int .u8 x] w fun e w'=>e=.returned (.bool (decide (48≤x∧x≤57)))∧w'=w:=by
 by_cases h1:48≤x<;>by_cases h2:x≤57<;>
  (go_enter Tryz.func92,Tryz.ntmps92
   go_wp2;go_ret;exact ⟨by simp [h1,h2],rfl⟩)
theorem rletter_walk (x:Int) (w:World):Calls Tryz.prog 65 #[.int .u8 x] w fun e w'=>e=.returned (.bool (decide ((97≤x∧x≤122)∨(65≤x∧x≤90))))∧w'=w:=by
 by_cases h1:x≥97<;>by_cases h2:x≤122<;>by_cases h3:x≥65<;>by_cases h4:x≤90<;>
  (go_enter Tryz.func65,Tryz.ntmps65
   go_wp2;go_ret;exact ⟨by simp [h1,h2,h3,h4];try omega,rfl⟩)
theorem rdigit_walk (x:Int) (w:World):Calls Tryz.prog 66 #[.int .u8 x] w fun e w'=>e=.returned (.bool (decide (48≤x∧x≤57)))∧w'=w:=by
 by_cases h1:x≥48<;>by_cases h2:x≤57<;>
  (go_enter Tryz.func66,Tryz.ntmps66
   go_wp2;go_ret;exact ⟨by simp [h1,h2];try omega,rfl⟩)
theorem letterB_eq (c:UInt8):letterB c=decide ((97≤(c.toNat:Int)∧(c.toNat:Int)≤122)∨(65≤(c.toNat:Int)∧(c.toNat:Int)≤90)):=by
 unfold letterB;rw [Bool.eq_iff_iff];simp only [Bool.or_eq_true,Bool.and_eq_true,decide_eq_true_eq];omega
theorem digitB_eq (c:UInt8):digitB c=decide (48≤(c.toNat:Int)∧(c.toNat:Int)≤57):=by
 unfold digitB;rw [Bool.eq_iff_iff];simp only [Bool.and_eq_true,decide_eq_true_eq];omega
theorem drop_at {l:List UInt8} {i:Nat} {c:UInt8} (h:l[i]?=some c):l.drop i=c::l.drop (i+1):=by
 obtain ⟨hi,rfl⟩:=List.getElem?_eq_some_iff.1 h;exact List.drop_eq_getElem_cons hi
set_option maxHeartbeats 4000000 in
theorem reserved_walk (s:List UInt8) (w:World):Calls Tryz.prog 90 #[strT s] w fun e w'=>e=.returned (.bool (reservedB s))∧w'=w:=by
 go_enter Tryz.func90,Tryz.ntmps90
 go_upto_region 1 with (fail);refine lbeg (opsOf Tryz.f90 1) ?_;refine lnow 0 (strT s) (some 3) ?_;refine ldq 1 ?_;by_cases h0:s=[80,114,111,112]
 ·have e0:decide (s=[80,114,111,112])=true:=decide_eq_true h0
  go_upto_region 2 with (fail);refine lbeg (opsOf Tryz.f90 2) ?_;refine lnowP 0 (.bool (decide (s=[80,114,111,112]))) (some 5) (exec_streqT 9 9 (.tmp 3) (.const (.string ⟨#[80,114,111,112]⟩)) (by kernel_rfl) s [80,114,111,112] (by kernel_rfl) (by kernel_rfl) (fun w=>by kernel_rfl)) ?_;rw [e0];refine lnow 1 (.bool true) (some 4) ?_;refine ldq 2 ?_;go_wp2;go_ret;exact ⟨by unfold reservedB words16;subst h0;rfl,rfl⟩
 ·have e0:decide (s=[80,114,111,112])=false:=decide_eq_false h0
  go_upto_region 2 with (fail);refine lbeg (opsOf Tryz.f90 2) ?_;refine lnowP 0 (.bool (decide (s=[80,114,111,112]))) (some 5) (exec_streqT 9 9 (.tmp 3) (.const (.string ⟨#[80,114,111,112]⟩)) (by kernel_rfl) s [80,114,111,112] (by kernel_rfl) (by kernel_rfl) (fun w=>by kernel_rfl)) ?_;rw [e0];refine lnow 1 (.bool false) (some 4) ?_;refine ldq 2 ?_;by_cases h1:s=[84,121,112,101]
  ·have e1:decide (s=[84,121,112,101])=true:=decide_eq_true h1
   go_upto_region 3 with (fail);refine lbeg (opsOf Tryz.f90 3) ?_;refine lnowP 0 (.bool (decide (s=[84,121,112,101]))) (some 6) (exec_streqT 9 9 (.tmp 3) (.const (.string ⟨#[84,121,112,101]⟩)) (by kernel_rfl) s [84,121,112,101] (by kernel_rfl) (by kernel_rfl) (fun w=>by kernel_rfl)) ?_;rw [e1];refine lnow 1 (.bool true) (some 4) ?_;refine ldq 2 ?_;go_wp2;go_ret;exact ⟨by unfold reservedB words16;subst h1;rfl,rfl⟩
  ·have e1:decide (s=[84,121,112,101])=false:=decide_eq_false h1
   go_upto_region 3 with (fail);refine lbeg (opsOf Tryz.f90 3) ?_;refine lnowP 0 (.bool (decide (s=[84,121,112,101]))) (some 6) (exec_streqT 9 9 (.tmp 3) (.const (.string ⟨#[84,121,112,101]⟩)) (by kernel_rfl) s [84,121,112,101] (by kernel_rfl) (by kernel_rfl) (fun w=>by kernel_rfl)) ?_;rw [e1];refine lnow 1 (.bool false) (some 4) ?_;refine ldq 2 ?_;by_cases h2:s=[102,117,110]
   ·have e2:decide (s=[102,117,110])=true:=decide_eq_true h2
    go_upto_region 4 with (fail);refine lbeg (opsOf Tryz.f90 4) ?_;refine lnowP 0 (.bool (decide (s=[102,117,110]))) (some 7) (exec_streqT 9 9 (.tmp 3) (.const (.string ⟨#[102,117,110]⟩)) (by kernel_rfl) s [102,117,110] (by kernel_rfl) (by kernel_rfl) (fun w=>by kernel_rfl)) ?_;rw [e2];refine lnow 1 (.bool true) (some 4) ?_;refine ldq 2 ?_;go_wp2;go_ret;exact ⟨by unfold reservedB words16;subst h2;rfl,rfl⟩
   ·have e2:decide (s=[102,117,110])=false:=decide_eq_false h2
    go_upto_region 4 with (fail);refine lbeg (opsOf Tryz.f90 4) ?_;refine lnowP 0 (.bool (decide (s=[102,117,110]))) (some 7) (exec_streqT 9 9 (.tmp 3) (.const (.string ⟨#[102,117,110]⟩)) (by kernel_rfl) s [102,117,110] (by kernel_rfl) (by kernel_rfl) (fun w=>by kernel_rfl)) ?_;rw [e2];refine lnow 1 (.bool false) (some 4) ?_;refine ldq 2 ?_;by_cases h3:s=[97,108,108]
    ·have e3:decide (s=[97,108,108])=true:=decide_eq_true h3
     go_upto_region 5 with (fail);refine lbeg (opsOf Tryz.f90 5) ?_;refine lnowP 0 (.bool (decide (s=[97,108,108]))) (some 8) (exec_streqT 9 9 (.tmp 3) (.const (.string ⟨#[97,108,108]⟩)) (by kernel_rfl) s [97,108,108] (by kernel_rfl) (by kernel_rfl) (fun w=>by kernel_rfl)) ?_;rw [e3];refine lnow 1 (.bool true) (some 4) ?_;refine ldq 2 ?_;go_wp2;go_ret;exact ⟨by unfold reservedB words16;subst h3;rfl,rfl⟩
    ·have e3:decide (s=[97,108,108])=false:=decide_eq_false h3
     go_upto_region 5 with (fail);refine lbeg (opsOf Tryz.f90 5) ?_;refine lnowP 0 (.bool (decide (s=[97,108,108]))) (some 8) (exec_streqT 9 9 (.tmp 3) (.const (.string ⟨#[97,108,108]⟩)) (by kernel_rfl) s [97,108,108] (by kernel_rfl) (by kernel_rfl) (fun w=>by kernel_rfl)) ?_;rw [e3];refine lnow 1 (.bool false) (some 4) ?_;refine ldq 2 ?_;by_cases h4:s=[108,101,116]
     ·have e4:decide (s=[108,101,116])=true:=decide_eq_true h4
      go_upto_region 6 with (fail);refine lbeg (opsOf Tryz.f90 6) ?_;refine lnowP 0 (.bool (decide (s=[108,101,116]))) (some 9) (exec_streqT 9 9 (.tmp 3) (.const (.string ⟨#[108,101,116]⟩)) (by kernel_rfl) s [108,101,116] (by kernel_rfl) (by kernel_rfl) (fun w=>by kernel_rfl)) ?_;rw [e4];refine lnow 1 (.bool true) (some 4) ?_;refine ldq 2 ?_;go_wp2;go_ret;exact ⟨by unfold reservedB words16;subst h4;rfl,rfl⟩
     ·have e4:decide (s=[108,101,116])=false:=decide_eq_false h4
      go_upto_region 6 with (fail);refine lbeg (opsOf Tryz.f90 6) ?_;refine lnowP 0 (.bool (decide (s=[108,101,116]))) (some 9) (exec_streqT 9 9 (.tmp 3) (.const (.string ⟨#[108,101,116]⟩)) (by kernel_rfl) s [108,101,116] (by kernel_rfl) (by kernel_rfl) (fun w=>by kernel_rfl)) ?_;rw [e4];refine lnow 1 (.bool false) (some 4) ?_;refine ldq 2 ?_;by_cases h5:s=[105,110]
      ·have e5:decide (s=[105,110])=true:=decide_eq_true h5
       go_upto_region 7 with (fail);refine lbeg (opsOf Tryz.f90 7) ?_;refine lnowP 0 (.bool (decide (s=[105,110]))) (some 10) (exec_streqT 9 9 (.tmp 3) (.const (.string ⟨#[105,110]⟩)) (by kernel_rfl) s [105,110] (by kernel_rfl) (by kernel_rfl) (fun w=>by kernel_rfl)) ?_;rw [e5];refine lnow 1 (.bool true) (some 4) ?_;refine ldq 2 ?_;go_wp2;go_ret;exact ⟨by unfold reservedB words16;subst h5;rfl,rfl⟩
      ·have e5:decide (s=[105,110])=false:=decide_eq_false h5
       go_upto_region 7 with (fail);refine lbeg (opsOf Tryz.f90 7) ?_;refine lnowP 0 (.bool (decide (s=[105,110]))) (some 10) (exec_streqT 9 9 (.tmp 3) (.const (.string ⟨#[105,110]⟩)) (by kernel_rfl) s [105,110] (by kernel_rfl) (by kernel_rfl) (fun w=>by kernel_rfl)) ?_;rw [e5];refine lnow 1 (.bool false) (some 4) ?_;refine ldq 2 ?_;by_cases h6:s=[111,102]
       ·have e6:decide (s=[111,102])=true:=decide_eq_true h6
        go_upto_region 8 with (fail);refine lbeg (opsOf Tryz.f90 8) ?_;refine lnowP 0 (.bool (decide (s=[111,102]))) (some 11) (exec_streqT 9 9 (.tmp 3) (.const (.string ⟨#[111,102]⟩)) (by kernel_rfl) s [111,102] (by kernel_rfl) (by kernel_rfl) (fun w=>by kernel_rfl)) ?_;rw [e6];refine lnow 1 (.bool true) (some 4) ?_;refine ldq 2 ?_;go_wp2;go_ret;exact ⟨by unfold reservedB words16;subst h6;rfl,rfl⟩
       ·have e6:decide (s=[111,102])=false:=decide_eq_false h6
        go_upto_region 8 with (fail);refine lbeg (opsOf Tryz.f90 8) ?_;refine lnowP 0 (.bool (decide (s=[111,102]))) (some 11) (exec_streqT 9 9 (.tmp 3) (.const (.string ⟨#[111,102]⟩)) (by kernel_rfl) s [111,102] (by kernel_rfl) (by kernel_rfl) (fun w=>by kernel_rfl)) ?_;rw [e6];refine lnow 1 (.bool false) (some 4) ?_;refine ldq 2 ?_;by_cases h7:s=[119,105,116,104]
        ·have e7:decide (s=[119,105,116,104])=true:=decide_eq_true h7
         go_upto_region 9 with (fail);refine lbeg (opsOf Tryz.f90 9) ?_;refine lnowP 0 (.bool (decide (s=[119,105,116,104]))) (some 12) (exec_streqT 9 9 (.tmp 3) (.const (.string ⟨#[119,105,116,104]⟩)) (by kernel_rfl) s [119,105,116,104] (by kernel_rfl) (by kernel_rfl) (fun w=>by kernel_rfl)) ?_;rw [e7];refine lnow 1 (.bool true) (some 4) ?_;refine ldq 2 ?_;go_wp2;go_ret;exact ⟨by unfold reservedB words16;subst h7;rfl,rfl⟩
        ·have e7:decide (s=[119,105,116,104])=false:=decide_eq_false h7
         go_upto_region 9 with (fail);refine lbeg (opsOf Tryz.f90 9) ?_;refine lnowP 0 (.bool (decide (s=[119,105,116,104]))) (some 12) (exec_streqT 9 9 (.tmp 3) (.const (.string ⟨#[119,105,116,104]⟩)) (by kernel_rfl) s [119,105,116,104] (by kernel_rfl) (by kernel_rfl) (fun w=>by kernel_rfl)) ?_;rw [e7];refine lnow 1 (.bool false) (some 4) ?_;refine ldq 2 ?_;by_cases h8:s=[97,120,105,111,109]
         ·have e8:decide (s=[97,120,105,111,109])=true:=decide_eq_true h8
          go_upto_region 10 with (fail);refine lbeg (opsOf Tryz.f90 10) ?_;refine lnowP 0 (.bool (decide (s=[97,120,105,111,109]))) (some 13) (exec_streqT 9 9 (.tmp 3) (.const (.string ⟨#[97,120,105,111,109]⟩)) (by kernel_rfl) s [97,120,105,111,109] (by kernel_rfl) (by kernel_rfl) (fun w=>by kernel_rfl)) ?_;rw [e8];refine lnow 1 (.bool true) (some 4) ?_;refine ldq 2 ?_;go_wp2;go_ret;exact ⟨by unfold reservedB words16;subst h8;rfl,rfl⟩
         ·have e8:decide (s=[97,120,105,111,109])=false:=decide_eq_false h8
          go_upto_region 10 with (fail);refine lbeg (opsOf Tryz.f90 10) ?_;refine lnowP 0 (.bool (decide (s=[97,120,105,111,109]))) (some 13) (exec_streqT 9 9 (.tmp 3) (.const (.string ⟨#[97,120,105,111,109]⟩)) (by kernel_rfl) s [97,120,105,111,109] (by kernel_rfl) (by kernel_rfl) (fun w=>by kernel_rfl)) ?_;rw [e8];refine lnow 1 (.bool false) (some 4) ?_;refine ldq 2 ?_;by_cases h9:s=[100,101,102]
          ·have e9:decide (s=[100,101,102])=true:=decide_eq_true h9
           go_upto_region 11 with (fail);refine lbeg (opsOf Tryz.f90 11) ?_;refine lnowP 0 (.bool (decide (s=[100,101,102]))) (some 14) (exec_streqT 9 9 (.tmp 3) (.const (.string ⟨#[100,101,102]⟩)) (by kernel_rfl) s [100,101,102] (by kernel_rfl) (by kernel_rfl) (fun w=>by kernel_rfl)) ?_;rw [e9];refine lnow 1 (.bool true) (some 4) ?_;refine ldq 2 ?_;go_wp2;go_ret;exact ⟨by unfold reservedB words16;subst h9;rfl,rfl⟩
          ·have e9:decide (s=[100,101,102])=false:=decide_eq_false h9
           go_upto_region 11 with (fail);refine lbeg (opsOf Tryz.f90 11) ?_;refine lnowP 0 (.bool (decide (s=[100,101,102]))) (some 14) (exec_streqT 9 9 (.tmp 3) (.const (.string ⟨#[100,101,102]⟩)) (by kernel_rfl) s [100,101,102] (by kernel_rfl) (by kernel_rfl) (fun w=>by kernel_rfl)) ?_;rw [e9];refine lnow 1 (.bool false) (some 4) ?_;refine ldq 2 ?_;by_cases h10:s=[116,104,101,111,114,101,109]
           ·have e10:decide (s=[116,104,101,111,114,101,109])=true:=decide_eq_true h10
            go_upto_region 12 with (fail);refine lbeg (opsOf Tryz.f90 12) ?_;refine lnowP 0 (.bool (decide (s=[116,104,101,111,114,101,109]))) (some 15) (exec_streqT 9 9 (.tmp 3) (.const (.string ⟨#[116,104,101,111,114,101,109]⟩)) (by kernel_rfl) s [116,104,101,111,114,101,109] (by kernel_rfl) (by kernel_rfl) (fun w=>by kernel_rfl)) ?_;rw [e10];refine lnow 1 (.bool true) (some 4) ?_;refine ldq 2 ?_;go_wp2;go_ret;exact ⟨by unfold reservedB words16;subst h10;rfl,rfl⟩
           ·have e10:decide (s=[116,104,101,111,114,101,109])=false:=decide_eq_false h10
            go_upto_region 12 with (fail);refine lbeg (opsOf Tryz.f90 12) ?_;refine lnowP 0 (.bool (decide (s=[116,104,101,111,114,101,109]))) (some 15) (exec_streqT 9 9 (.tmp 3) (.const (.string ⟨#[116,104,101,111,114,101,109]⟩)) (by kernel_rfl) s [116,104,101,111,114,101,109] (by kernel_rfl) (by kernel_rfl) (fun w=>by kernel_rfl)) ?_;rw [e10];refine lnow 1 (.bool false) (some 4) ?_;refine ldq 2 ?_;by_cases h11:s=[102,97,109,105,108,121]
            ·have e11:decide (s=[102,97,109,105,108,121])=true:=decide_eq_true h11
             go_upto_region 13 with (fail);refine lbeg (opsOf Tryz.f90 13) ?_;refine lnowP 0 (.bool (decide (s=[102,97,109,105,108,121]))) (some 16) (exec_streqT 9 9 (.tmp 3) (.const (.string ⟨#[102,97,109,105,108,121]⟩)) (by kernel_rfl) s [102,97,109,105,108,121] (by kernel_rfl) (by kernel_rfl) (fun w=>by kernel_rfl)) ?_;rw [e11];refine lnow 1 (.bool true) (some 4) ?_;refine ldq 2 ?_;go_wp2;go_ret;exact ⟨by unfold reservedB words16;subst h11;rfl,rfl⟩
            ·have e11:decide (s=[102,97,109,105,108,121])=false:=decide_eq_false h11
             go_upto_region 13 with (fail);refine lbeg (opsOf Tryz.f90 13) ?_;refine lnowP 0 (.bool (decide (s=[102,97,109,105,108,121]))) (some 16) (exec_streqT 9 9 (.tmp 3) (.const (.string ⟨#[102,97,109,105,108,121]⟩)) (by kernel_rfl) s [102,97,109,105,108,121] (by kernel_rfl) (by kernel_rfl) (fun w=>by kernel_rfl)) ?_;rw [e11];refine lnow 1 (.bool false) (some 4) ?_;refine ldq 2 ?_;by_cases h12:s=[117,48]
             ·have e12:decide (s=[117,48])=true:=decide_eq_true h12
              go_upto_region 14 with (fail);refine lbeg (opsOf Tryz.f90 14) ?_;refine lnowP 0 (.bool (decide (s=[117,48]))) (some 17) (exec_streqT 9 9 (.tmp 3) (.const (.string ⟨#[117,48]⟩)) (by kernel_rfl) s [117,48] (by kernel_rfl) (by kernel_rfl) (fun w=>by kernel_rfl)) ?_;rw [e12];refine lnow 1 (.bool true) (some 4) ?_;refine ldq 2 ?_;go_wp2;go_ret;exact ⟨by unfold reservedB words16;subst h12;rfl,rfl⟩
             ·have e12:decide (s=[117,48])=false:=decide_eq_false h12
              go_upto_region 14 with (fail);refine lbeg (opsOf Tryz.f90 14) ?_;refine lnowP 0 (.bool (decide (s=[117,48]))) (some 17) (exec_streqT 9 9 (.tmp 3) (.const (.string ⟨#[117,48]⟩)) (by kernel_rfl) s [117,48] (by kernel_rfl) (by kernel_rfl) (fun w=>by kernel_rfl)) ?_;rw [e12];refine lnow 1 (.bool false) (some 4) ?_;refine ldq 2 ?_;by_cases h13:s=[117,49]
              ·have e13:decide (s=[117,49])=true:=decide_eq_true h13
               go_upto_region 15 with (fail);refine lbeg (opsOf Tryz.f90 15) ?_;refine lnowP 0 (.bool (decide (s=[117,49]))) (some 18) (exec_streqT 9 9 (.tmp 3) (.const (.string ⟨#[117,49]⟩)) (by kernel_rfl) s [117,49] (by kernel_rfl) (by kernel_rfl) (fun w=>by kernel_rfl)) ?_;rw [e13];refine lnow 1 (.bool true) (some 4) ?_;refine ldq 2 ?_;go_wp2;go_ret;exact ⟨by unfold reservedB words16;subst h13;rfl,rfl⟩
              ·have e13:decide (s=[117,49])=false:=decide_eq_false h13
               go_upto_region 15 with (fail);refine lbeg (opsOf Tryz.f90 15) ?_;refine lnowP 0 (.bool (decide (s=[117,49]))) (some 18) (exec_streqT 9 9 (.tmp 3) (.const (.string ⟨#[117,49]⟩)) (by kernel_rfl) s [117,49] (by kernel_rfl) (by kernel_rfl) (fun w=>by kernel_rfl)) ?_;rw [e13];refine lnow 1 (.bool false) (some 4) ?_;refine ldq 2 ?_;by_cases h14:s=[117,50]
               ·have e14:decide (s=[117,50])=true:=decide_eq_true h14
                go_upto_region 16 with (fail);refine lbeg (opsOf Tryz.f90 16) ?_;refine lnowP 0 (.bool (decide (s=[117,50]))) (some 19) (exec_streqT 9 9 (.tmp 3) (.const (.string ⟨#[117,50]⟩)) (by kernel_rfl) s [117,50] (by kernel_rfl) (by kernel_rfl) (fun w=>by kernel_rfl)) ?_;rw [e14];refine lnow 1 (.bool true) (some 4) ?_;refine ldq 2 ?_;go_wp2;go_ret;exact ⟨by unfold reservedB words16;subst h14;rfl,rfl⟩
               ·have e14:decide (s=[117,50])=false:=decide_eq_false h14
                go_upto_region 16 with (fail);refine lbeg (opsOf Tryz.f90 16) ?_;refine lnowP 0 (.bool (decide (s=[117,50]))) (some 19) (exec_streqT 9 9 (.tmp 3) (.const (.string ⟨#[117,50]⟩)) (by kernel_rfl) s [117,50] (by kernel_rfl) (by kernel_rfl) (fun w=>by kernel_rfl)) ?_;rw [e14];refine lnow 1 (.bool false) (some 4) ?_;refine ldq 2 ?_;by_cases h15:s=[117,51]
                ·have e15:decide (s=[117,51])=true:=decide_eq_true h15
                 go_upto_region 17 with (fail);refine lbeg (opsOf Tryz.f90 17) ?_;refine lnowP 0 (.bool (decide (s=[117,51]))) (some 20) (exec_streqT 9 9 (.tmp 3) (.const (.string ⟨#[117,51]⟩)) (by kernel_rfl) s [117,51] (by kernel_rfl) (by kernel_rfl) (fun w=>by kernel_rfl)) ?_;rw [e15];refine lnow 1 (.bool true) (some 4) ?_;refine ldq 2 ?_;go_wp2;go_ret;exact ⟨by unfold reservedB words16;subst h15;rfl,rfl⟩
                ·have e15:decide (s=[117,51])=false:=decide_eq_false h15
                 go_upto_region 17 with (fail);refine lbeg (opsOf Tryz.f90 17) ?_;refine lnowP 0 (.bool (decide (s=[117,51]))) (some 20) (exec_streqT 9 9 (.tmp 3) (.const (.string ⟨#[117,51]⟩)) (by kernel_rfl) s [117,51] (by kernel_rfl) (by kernel_rfl) (fun w=>by kernel_rfl)) ?_;rw [e15];refine lnow 1 (.bool false) (some 4) ?_;refine ldq 2 ?_;go_wp2;go_ret;exact ⟨by unfold reservedB words16;simp only [List.mem_cons,List.not_mem_nil,or_false,h0,h1,h2,h3,h4,h5,h6,h7,h8,h9,h10,h11,h12,h13,h14,h15];simp,rfl⟩
set_option maxHeartbeats 4000000 in
theorem word_walk (s:List UInt8) (hl:s.length≤140737488351232) (w:World):Calls Tryz.prog 58 #[strT s] w fun e w'=>e=.returned (.bool (wordB s))∧w'=w:=by
 obtain ⟨n,hn⟩:∃ n,Hid (s.length=n):=⟨_,rfl⟩;rw [hn.out] at hl;have hW:wordB s=(decide (n≤32)&&!reservedB s&&partsB true s):=(by unfold wordB;rw [hn.out]);have HW:=hZ hW;clear hW
 go_enter Tryz.func58,Tryz.ntmps58
 by_cases h32:32<n
 ·have r0:decide ((n:Int)>32)=true:=by simp;omega
  go_upto_region 1 with (fail);refine lbeg (opsOf Tryz.f58 1) ?_;refine lnow 0 (strT s) (some 6) ?_;refine lnow 1 (.int .i64 (s.length:Int)) (some 7) ?_;rw [hn.out];refine lnow 2 (.bool (decide ((n:Int)>32))) (some 8) ?_;rw [r0];refine lnow 3 (.bool true) (some 9) ?_;refine lpas 4 (some 10) ?_;refine lpas 5 (some 11) ?_;refine lnow 6 (.bool true) (some 12) ?_;refine ldq 7 ?_;go_wp2;go_ret;exact ⟨by rw [HW.out,decide_eq_false (show ¬ n≤32 by omega)];rfl,rfl⟩
 have r0:decide ((n:Int)>32)=false:=(by simp;omega);have HW2:Hid (wordB s=(!reservedB s&&partsB true s)):=(by rw [Hid,HW.out,decide_eq_true (show n≤32 by omega)];rfl);clear HW;obtain ⟨rb,hrb⟩:∃ x,Hid (reservedB s=x):=⟨_,rfl⟩;rw [hrb.out] at HW2;have RW:=reserved_walk s w;rw [hrb.out] at RW;cases rb
 rotate_left
 ·skip
  go_upto_region 1 with (fail);refine lbeg (opsOf Tryz.f58 1) ?_;refine lnow 0 (strT s) (some 6) ?_;refine lnow 1 (.int .i64 (s.length:Int)) (some 7) ?_;rw [hn.out];refine lnow 2 (.bool (decide ((n:Int)>32))) (some 8) ?_;rw [r0];refine lnow 3 (.bool false) (some 9) ?_;refine lnow 4 (strT s) (some 10) ?_;refine lcal 5 90 #[strT s] (some 11) _ (RW) ?_;rintro e w6 ⟨rfl,hw6⟩;obtain rfl:=hw6.symm;refine ⟨_,rfl,?_⟩;refine lnow 6 (.bool true) (some 12) ?_;refine ldq 7 ?_;go_wp2;go_ret;exact ⟨by rw [HW2.out];rfl,rfl⟩
 go_upto_region 1 with (fail);refine lbeg (opsOf Tryz.f58 1) ?_;refine lnow 0 (strT s) (some 6) ?_;refine lnow 1 (.int .i64 (s.length:Int)) (some 7) ?_;rw [hn.out];refine lnow 2 (.bool (decide ((n:Int)>32))) (some 8) ?_;rw [r0];refine lnow 3 (.bool false) (some 9) ?_;refine lnow 4 (strT s) (some 10) ?_;refine lcal 5 90 #[strT s] (some 11) _ (RW) ?_;rintro e w6 ⟨rfl,hw6⟩;obtain rfl:=hw6.symm;refine ⟨_,rfl,?_⟩;refine lnow 6 (.bool false) (some 12) ?_;refine ldq 7 ?_;have HW3:Hid (wordB s=partsB true s):=(by rw [Hid,HW2.out];rfl);clear HW2 RW hrb;go_upto_region 4 with (fail);refine lbeg (opsOf Tryz.f58 4) ?_;refine lnow 0 (strT s) (some 13) ?_;refine lnow 1 (.int .i64 (s.length:Int)) (some 14) ?_;rw [hn.out];refine lnow 2 (.int .i64 0) (some 15) ?_;refine ldq 3 ?_;go_wp2
 go_loopw [3,15] (fun bv iv wr=>∃ (i:Nat) (b:Bool),i≤n∧bv=.bool b∧iv=.int .i64 (i:Int)∧Hid (partsB b (s.drop i)=partsB true s)∧w=wr) (fun _ iv _=>n-(intOf iv).toNat)
 case atStart=>exact ⟨0,true,Nat.zero_le _,rfl,rfl,by rw [Hid,List.drop_zero],rfl⟩
 case round=>
  obtain ⟨i,b,hi,rfl,rfl,hP,rfl⟩:=hrel;by_cases hlt:i<n
  rotate_left
  ·have r1:¬ (i:Int)<(n:Int):=by omega
   have hD:s.drop i=[]:=List.drop_eq_nil_of_le (by have:=hn.out;omega);have hP2:=hP.out;rw [hD] at hP2;have HP2:=hZ hP2;clear hP hP2 hD;cases b<;>
    (go_wp2
     go_ret;exact ⟨by rw [HW3.out,← HP2.out];rfl,rfl⟩)
  have r1:(i:Int)<(n:Int):=(by omega);obtain ⟨c,hc⟩:∃ c,s[i]?=some c:=⟨_,List.getElem?_eq_getElem (by have:=hn.out;omega)⟩;have hP2:=hP.out;rw [drop_at hc] at hP2;obtain ⟨x,hx⟩:∃ x:Int,Hid ((c.toNat:Int)=x):=⟨_,rfl⟩;have HC:=hZ hc;have hLb:letterB c=decide ((97≤x∧x≤122)∨(65≤x∧x≤90)):=(by rw [letterB_eq,hx.out]);have hDb:digitB c=decide (48≤x∧x≤57):=(by rw [digitB_eq,hx.out]);have h46:c=46↔x=46:=(byte_eq c 46 (by omega)).trans (by have:=hx.out;omega);have h95:c=95↔x=95:=(byte_eq c 95 (by omega)).trans (by have:=hx.out;omega);clear hc hP;have LW:=letter_walk x w;have DW:=digit_walkT x w;rw [← hLb] at LW;rw [← hDb] at DW;obtain ⟨lb,hlb⟩:∃ y,Hid (letterB c=y):=⟨_,rfl⟩;obtain ⟨db,hdb⟩:∃ y,Hid (digitB c=y):=⟨_,rfl⟩;rw [hlb.out] at LW;rw [hdb.out] at DW;have PT:partsB true (c::s.drop (i+1))=(lb&&partsB false (s.drop (i+1))):=(by rw [partsB,hlb.out]);have PF:partsB false (c::s.drop (i+1))=if x=46 then partsB true (s.drop (i+1)) else (lb||db||decide (x=95))&&partsB false (s.drop (i+1)):=(by rw [partsB,hlb.out,hdb.out];simp only [h46,h95]);have hl46:lb=true→x≠46:=(by rintro rfl;have:=hLb.symm.trans hlb.out;simp at this;omega);have HP:=hZ hP2;have HPT:=hZ PT;have HPF:=hZ PF;have HL46:=hZ hl46;clear hP2 PT PF hLb hDb h46 h95 hlb hdb hl46;go_upto_region 6 with (fail);refine lbeg (opsOf Tryz.f58 6) ?_
  refine lnow 0 (.int .i64 (i:Int)) (some 17) ?_;refine lnow 1 (.int .i64 (i:Int)) (some 4) ?_;refine ldq 2 ?_;go_upto_region 7 with (fail);refine lbeg (opsOf Tryz.f58 7) ?_;refine lnow 0 (strT s) (some 18) ?_;refine lnow 1 (.int .i64 (i:Int)) (some 19) ?_;refine lnowP 2 (.int .u8 (c.toNat:Int)) (some 20) (exec_stridx (.tmp 18) (.tmp 19) (by kernel_rfl) s (by kernel_rfl) i (by kernel_rfl) c HC.out) ?_;rw [hx.out];refine lnow 3 (.int .u8 x) (some 5) ?_;refine ldq 4 ?_;cases lb
  rotate_left
  ·skip
   go_upto_region 8 with (fail);refine lbeg (opsOf Tryz.f58 8) ?_;refine lnow 0 (.int .u8 x) (some 22) ?_;refine lcal 1 91 #[.int .u8 x] (some 23) _ (LW) ?_;rintro e w7 ⟨rfl,hw7⟩;obtain rfl:=hw7.symm;refine ⟨_,rfl,?_⟩;refine lnow 2 (.bool true) (some 21) ?_;refine ldq 3 ?_;have NX:Hid (partsB false (s.drop (i+1))=partsB true s):=by
    rw [Hid,← HP.out];cases b
    ·rw [HPF.out,if_neg (HL46.out rfl)];simp
    ·rw [HPT.out];simp
   go_wp2;go_roundw
   case rel=>exact ⟨i+1,false,by omega,rfl,by go_num,NX,by trivial⟩
   case measure=>simp [intOf];omega
  go_upto_region 8 with (fail);refine lbeg (opsOf Tryz.f58 8) ?_;refine lnow 0 (.int .u8 x) (some 22) ?_;refine lcal 1 91 #[.int .u8 x] (some 23) _ (LW) ?_;rintro e w7 ⟨rfl,hw7⟩;obtain rfl:=hw7.symm;refine ⟨_,rfl,?_⟩;refine lnow 2 (.bool false) (some 21) ?_;refine ldq 3 ?_;cases b
  rotate_left
  ·skip
   go_wp2;go_ret;exact ⟨by rw [HW3.out,← HP.out,HPT.out];rfl,rfl⟩
  by_cases hx46:x=46
  ·have NX:Hid (partsB true (s.drop (i+1))=partsB true s):=by rw [Hid,← HP.out,HPF.out,if_pos hx46]
   have rx:decide (x=46)=true:=decide_eq_true hx46;go_wp2;go_roundw
   case rel=>exact ⟨i+1,true,by omega,rfl,by go_num,NX,by trivial⟩
   case measure=>simp [intOf];omega
  by_cases hx95:x=95
  ·have NX:Hid (partsB false (s.drop (i+1))=partsB true s):=by rw [Hid,← HP.out,HPF.out,if_neg hx46];simp [hx95]
   go_wp2;go_roundw
   case rel=>exact ⟨i+1,false,by omega,rfl,by go_num,NX,by trivial⟩
   case measure=>simp [intOf];omega
  have r95:(!decide (x=95))=true:=(by simp [hx95]);cases db
  rotate_left
  ·skip
   go_upto_region 14 with (fail);refine lbeg (opsOf Tryz.f58 14) ?_;refine lnow 0 (.int .u8 x) (some 30) ?_;refine lnow 1 (.bool (!decide (x=95))) (some 31) ?_;rw [r95];refine lnow 2 (.bool true) (some 32) ?_;refine lnow 3 (.int .u8 x) (some 33) ?_;refine lcal 4 92 #[.int .u8 x] (some 34) _ (DW) ?_;rintro e w8 ⟨rfl,hw8⟩;obtain rfl:=hw8.symm;refine ⟨_,rfl,?_⟩;refine lnow 5 (.bool false) (some 35) ?_;refine lnow 6 (.bool false) (some 36) ?_;refine lnow 7 (.bool false) (some 29) ?_;refine ldq 8 ?_;have NX:Hid (partsB false (s.drop (i+1))=partsB true s):=(by rw [Hid,← HP.out,HPF.out,if_neg hx46];simp);go_wp2;go_roundw
   case rel=>exact ⟨i+1,false,by omega,rfl,by go_num,NX,by trivial⟩
   case measure=>simp [intOf];omega
  ·skip
   go_upto_region 14 with (fail);refine lbeg (opsOf Tryz.f58 14) ?_;refine lnow 0 (.int .u8 x) (some 30) ?_;refine lnow 1 (.bool (!decide (x=95))) (some 31) ?_;rw [r95];refine lnow 2 (.bool true) (some 32) ?_;refine lnow 3 (.int .u8 x) (some 33) ?_;refine lcal 4 92 #[.int .u8 x] (some 34) _ (DW) ?_;rintro e w8 ⟨rfl,hw8⟩;obtain rfl:=hw8.symm;refine ⟨_,rfl,?_⟩;refine lnow 5 (.bool true) (some 35) ?_;refine lnow 6 (.bool true) (some 36) ?_;refine lnow 7 (.bool true) (some 29) ?_;refine ldq 8 ?_;have NX:partsB false (c::s.drop (i+1))=false:=(by rw [HPF.out,if_neg hx46];simp [hx95]);go_wp2;go_ret;exact ⟨by rw [HW3.out,← HP.out,NX];rfl,rfl⟩
end Go.Proofs.YtmceocgddaaohaaGreatDoor
