import Derived.Test.YtdhnlckfcccnlaaGreatQLevA
namespace Go.Proofs.YtdhnlckfcccnlaaGreat
open Go Go.RowKit
set_option maxRecDepth 100000
noncomputable def lvF0:Field:=(Tryz.prog.fieldsOf 51)[0]!
noncomputable def lvF1:Field:=(Tryz.prog.fieldsOf 51)[1]!
theorem lvFs:(Tryz.prog.fieldsOf 51).toList=[lvF0,lvF1]:=by kernel_rfl
theorem lvF0n : lvF0.name = "Base" := by kernel_rfl
theorem lvF1n : lvF1.name = "Plus" := by kernel_rfl
theorem lvF0t:lvF0.type=3:=by kernel_rfl
theorem lvF1t:lvF1.type=49:=by kernel_rfl
theorem lvF0o:lvF0.offset=0:=by kernel_rfl
theorem lvF1o:lvF1.offset=1:=by kernel_rfl
theorem run_part_p {b:Int} {p:List Int} (h:p.length=4) (w:World):(part 49 (ints .i64 (b::p)).toArray 1).run Tryz.prog w=.ok (.agg (ints .i64 p).toArray) w:=by
 have hag:(isAgg 49).run Tryz.prog w=.ok true w:=(by kernel_rfl);have hz:(sizeOf 49).run Tryz.prog w=.ok 4 w:=(by kernel_rfl);unfold part;simp only [Sem.run_bind,hag,Result.andThen_ok,if_true,hz,Sem.run_pure];have e:(ints .i64 (b::p)).toArray.extract 1 (1+4)=(ints .i64 p).toArray:=
  match p,h with
  |[_,_,_,_],_=>rfl
 rw [e]
theorem run_eq_lv {a b:Lv} (ha:a.p.length=4) (hb:b.p.length=4) (w:World):(Op.equalIn 10000 51 (.agg (ints .i64 a.zs).toArray) (.agg (ints .i64 b.zs).toArray)).run Tryz.prog w=.ok (decide (a=b)) w:=by
 rw [show (10000 : Nat) = 9999 + 1 from rfl, run_equalIn_struct w 9999 _ _ _ (by kernel_rfl) (by kernel_rfl), lvFs];have h1 := run_part_ints w Tryz.underlying3 a.zs 0 (by simp [Lv.zs]);have h2 := run_part_ints w Tryz.underlying3 b.zs 0 (by simp [Lv.zs]);have h3 := run_part_p (b := a.b) ha w;have h4 := run_part_p (b := b.b) hb w;have h5 := run_equalIn_int w 9998 3 .i64 .i64 a.b b.b Tryz.underlying3;have h6 : (Op.equalIn 9999 49 (.agg (ints .i64 a.p).toArray) (.agg (ints .i64 b.p).toArray)).run Tryz.prog w = .ok (decide (a.p = b.p)) w := run_equalIn_ints w 9997 Tryz.underlying49 Tryz.underlying3 sizeInt a.p b.p ha hb;have e1 : a.zs.getD 0 0 = a.b := rfl;have e2 : b.zs.getD 0 0 = b.b := rfl;have n0 : lvF0.name ≠ "_" := (by rw [lvF0n]; decide);have n1 : lvF1.name ≠ "_" := (by rw [lvF1n]; decide);rw [e1] at h1;rw [e2] at h2;have h5' : (Op.equalIn 9999 3 (.int .i64 a.b) (.int .i64 b.b)).run Tryz.prog w = .ok (a.b == b.b) w := h5;unfold Op.eqFields;rw [if_pos n0];simp only [Sem.run_bind, lvF0t, lvF0o, h1, h2, Result.andThen_ok, h5'];cases hq : (a.b == b.b)
 ·rw [if_pos (by rfl)]
  rw [decide_eq_false (fun e=>by rw [e] at hq;simp at hq)]
  rfl
 ·have e:a.b=b.b:=by simpa using hq
  rw [if_neg (by decide)];unfold Op.eqFields;rw [if_pos n1];have h3':(part 49 (ints .i64 a.zs).toArray 1).run Tryz.prog w=.ok (.agg (ints .i64 a.p).toArray) w:=h3;have h4':(part 49 (ints .i64 b.zs).toArray 1).run Tryz.prog w=.ok (.agg (ints .i64 b.p).toArray) w:=h4;simp only [Sem.run_bind,lvF1t,lvF1o,h3',h4',Result.andThen_ok,h6];by_cases hp:a.p=b.p
  ·rw [decide_eq_true hp,if_neg (by decide)]
   have:a=b:=by
    obtain ⟨ab,ap⟩:=a;obtain ⟨bb,bp⟩:=b;simp only at e hp;rw [e,hp]
   rw [decide_eq_true this]
   rfl
  ·rw [decide_eq_false hp,if_pos (by rfl)]
   rw [decide_eq_false (fun e=>hp (by rw [e]))]
   rfl
end Go.Proofs.YtdhnlckfcccnlaaGreat
namespace Go.Proofs.YtdhnlckfcccnlaaGreat
open Go Go.RowKit
set_option maxRecDepth 100000
theorem infoTm:(Tryz.prog.info? 25).map (fun i=>(i.zero,i.size,i.bytes))=some (some (.agg #[.int .i64 0,.int .i64 0,strT [],.slice none 0 0,.slice none 0 0]),5,80):=by kernel_rfl
theorem infoLvS:(Tryz.prog.info? 51).map (fun i=>(i.zero,i.size,i.bytes))=some (some (.agg (ints .i64 z5).toArray),5,40):=by kernel_rfl
theorem elemTms1:Tryz.prog.underlying 23=some (.slice 25):=by kernel_rfl
theorem elemLvs1:Tryz.prog.underlying 22=some (.slice 51):=by kernel_rfl
theorem run_build_tm (k n:Int) (s:ByteArray) (la aa:Option Addr) (L lc N ac:Nat) (w:World):(Instr.buildSlice 23 1 #[(0,.agg [Value.int .i64 k,.int .i64 n,.string s,.slice la L lc,.slice aa N ac].toArray)]).run Tryz.prog w=.ok (.slice (some ⟨w.heap.size,0,none⟩) 1 1) (w.alloc (.cells [Value.int .i64 k,.int .i64 n,.string s,.slice la L lc,.slice aa N ac].toArray 25)):=by kernel_rfl
theorem run_build_lvx (b p0 p1 p2 p3:Int) (w:World):(Instr.buildSlice 22 1 #[(0,.agg (ints .i64 [b,p0,p1,p2,p3]).toArray)]).run Tryz.prog w=.ok (.slice (some ⟨w.heap.size,0,none⟩) 1 1) (w.alloc (.cells (ints .i64 [b,p0,p1,p2,p3]).toArray 51)):=by kernel_rfl
theorem run_build_lv1 (l:Lv) (h:l.p.length=4) (w:World):(Instr.buildSlice 22 1 #[(0,.agg (ints .i64 l.zs).toArray)]).run Tryz.prog w=.ok (.slice (some ⟨w.heap.size,0,none⟩) 1 1) (w.alloc (.cells (ints .i64 l.zs).toArray 51)):=by
 obtain ⟨b,p⟩:=l
 match p,h with
 |[p0,p1,p2,p3],_=>exact run_build_lvx b p0 p1 p2 p3 w
end Go.Proofs.YtdhnlckfcccnlaaGreat
