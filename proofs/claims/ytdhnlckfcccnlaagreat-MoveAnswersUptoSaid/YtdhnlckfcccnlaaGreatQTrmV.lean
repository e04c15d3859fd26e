import Derived.Test.YtdhnlckfcccnlaaGreatQTrmK
import Derived.Test.YtdhnlckfcccnlaaGreatQTrmD
import Derived.Test.YtdhnlckfcccnlaaGreatQMovG
import Derived.Test.YtdhnlckfcccnlaaGreatShlf
namespace Go.Proofs.YtdhnlckfcccnlaaGreat
open Go Go.RowKit Go.Sort
set_option maxRecDepth 100000
def RowS (m:Nat) (w:World) (v:Value) (l:List (List UInt8)):Prop:=
 (v=.slice none 0 0∧l=[])∨∃ g cap cur,v=.slice (some ⟨g,0,none⟩) l.length cap∧m≤g∧w.heap[g]?=some (.cells cur 9 (0,0))∧l.length≤cap∧cap≤maxLen∧cur.size=cap∧cur.toList.take l.length=l.map strT∧∀ u∈cur,strV u=true
theorem RowS.nil (m:Nat) (w:World):RowS m w (.slice none 0 0) []:=.inl ⟨rfl,rfl⟩
theorem RowS.own {m:Nat} {w:World} {v:Value} {l:List (List UInt8)} (h:RowS m w v l):∀ g,v.ownBlock=some g→m≤g∧g<w.heap.size∧∃ cur,w.heap[g]?=some (.cells cur 9 (0,0))∧∀ u∈cur,strV u=true:=fun g hg=>by
 rcases h with ⟨rfl,-⟩|⟨k,cap,cur,rfl,hb,hk,-,-,-,-,ha⟩
 ·cases hg
 ·cases hg
  exact ⟨hb,(Array.getElem?_eq_some_iff.1 hk).1,cur,hk,ha⟩
theorem RowS.kept {m:Nat} {w w':World} {v:Value} {l:List (List UInt8)} (h:RowS m w v l) (hk:∀ g,v.ownBlock=some g→w'.heap[g]?=w.heap[g]?):RowS m w' v l:=by
 rcases h with h|⟨k,cap,cur,rfl,hb,hh,h⟩
 ·exact .inl h
 ·exact .inr ⟨k,cap,cur,rfl,hb,(hk k rfl).trans hh,h⟩
theorem RowS.below {m:Nat} {w w':World} {v:Value} {l:List (List UInt8)} (h:RowS m w v l) (hb:Below w.heap.size w w'):RowS m w' v l:=h.kept fun g hg=>hb.block g (h.own g hg).2.1
theorem cell?_cells {w:World} {g k:Nat} {cur:Array Value} {e:TypeId} {u:Value} (h:w.heap[g]?=some (.cells cur e (0,0))) (hu:cur[k]?=some u):w.cell? ⟨g,k,none⟩=some u:=by
 unfold World.cell?
 simp [h,hu]
theorem infoStr1:(Tryz.prog.info? 9).map (fun i=>(i.zero,i.size,i.bytes))=some (some (strT []),1,16):=by kernel_rfl
theorem elemStrs1:Tryz.prog.underlying 26=some (.slice 9):=by kernel_rfl
theorem zero_strs (n:Nat):∀ u∈Builtin.zeroCells (strT []).cells n,strV u=true:=by
 intro u hu;have e:(strT []).cells=#[strT []]:=rfl;rw [e] at hu;unfold Builtin.zeroCells at hu;obtain ⟨x,-,rfl⟩:=Array.mem_map.1 hu;have:x % (#[strT []]:Array Value).size=0:=Nat.mod_one x;rw [this]
 rfl
theorem RowS.append {m : Nat} {w : World} {v : Value} {l : List (List UInt8)} {s : List UInt8} {g2 : Nat} (h : RowS m w v l) (hb : Blk w g2 9 [strT s]) (hn : (l.length + 1) * 16 ≤ 140737488355328) (hm : m ≤ w.heap.size) :
    ∃ v' w',(Builtin.append_ #[26,26] 26 #[v,.slice (some ⟨g2,0,none⟩) 1 1]).run Tryz.prog w=.ok v' w'∧RowS m w' v' (l++[s])∧w.grownBy w' v.ownBlock:=by
 obtain ⟨i0,hi0,hz0,hz1,hz2⟩:=info_parts infoStr1;have hnews:∀ j u,[strT s][j]?=some u→w.cell? ((⟨g2,0,none⟩:Addr).add j)=some u:=fun j u hj=>by rw [Addr.add_mid];exact hb.whole j u hj
 have hone:∀ u∈[strT s],u.oneCell'=true:=by simp [strT,Value.oneCell']
 have fresh : ∀ (old : Nat) (row : Option Nat), RowS m (w.drew.alloc (.cells ((l.map strT).toArray ++ [strT s].toArray ++ Builtin.zeroCells (strT []).cells (grownCap w (l.length + 1) old 9 - (l.length + 1))) 9)) (.slice (some ⟨w.heap.size, 0, none⟩) (l.length + 1) (grownCap w (l.length + 1) old 9)) (l ++ [s]) ∧
     w.grownBy (w.drew.alloc (.cells ((l.map strT).toArray++[strT s].toArray++Builtin.zeroCells (strT []).cells (grownCap w (l.length+1) old 9-(l.length+1))) 9)) row:=by
  intro old row;have hge:=grownCap_ge w (l.length+1) old 9;have hcm:grownCap w (l.length+1) old 9≤maxLen:=grownCap_le_maxLen w (l.length+1) old 9 (by unfold maxLen;omega);refine ⟨.inr ⟨w.heap.size,_,_,by simp,hm,heap_alloc_new w.drew _,by simpa using hge,hcm,?_,?_,?_⟩,⟨rfl,rfl,rfl,by simp,fun k hk _=>heap_alloc_old w.drew _ hk⟩⟩
  ·simp only [Array.size_append,List.size_toArray,size_zeroCells,List.length_map,List.length_cons,List.length_nil]
   rw [show (strT []).cells.size=1 from rfl,Nat.mul_one];omega
  ·have e:(l++[s]).length=((l.map strT)++[strT s]).length:=by simp
   rw [e,Array.toList_append,Array.toList_append,List.take_left' (by simp)]
   simp
  ·intro u hu
   rcases Array.mem_append.1 hu with hu|hu
   ·rcases Array.mem_append.1 hu with hu|hu
    ·simp at hu
     obtain ⟨x,-,rfl⟩:=hu
     rfl
    ·simp at hu
     subst hu
     rfl
   ·exact zero_strs _ u hu
 rcases h with ⟨rfl,rfl⟩|⟨g,cap,cur,rfl,hbg,hg,hnc,hcm,hcs,htake,hall⟩
 ·have hr:=run_append_nil (P:=Tryz.prog) w 26 26 9 i0 _ elemStrs1 hi0 hz0 ⟨g2,0,none⟩ 1 1 [strT s] (by rw [hz1];rfl) hnews (by omega) (by omega) (by rw [hz2];omega)
  have hgr:=fresh 0 (Value.ownBlock (.slice none 0 0));simp only [List.map_nil,List.length_nil,Nat.zero_add,List.nil_append] at hgr hr ⊢;rw [show (([]:List Value).toArray++[strT s].toArray)=[strT s].toArray by rfl] at hgr;exact ⟨_,_,hr,hgr.1,hgr.2⟩
 ·by_cases hroom:l.length+1≤cap
  ·have hr:=run_append_room (P:=Tryz.prog) w 26 26 9 i0 elemStrs1 hi0 g l.length cap cur hg ⟨g2,0,none⟩ 1 1 [strT s] (by rw [hz1];rfl) hnews hone hroom (by rw [hz1];simp;omega)
   rw [hz1] at hr;refine ⟨_,_,hr,.inr ⟨g,cap,_,by simp,hbg,setRow_heap w g cur _ 9 _ hg,by simpa using hroom,hcm,?_,?_,?_⟩,⟨rfl,rfl,rfl,by simp,fun k _ hk=>setRow_other w g k _ (fun e=>hk (by simp [Value.ownBlock,e]))⟩⟩
   ·simp only [List.size_toArray,List.length_append,List.length_take,List.length_drop,Array.length_toList,List.length_cons,List.length_nil]
    omega
   ·rw [Nat.mul_one,htake]
    have e:(l++[s]).length=((l.map strT)++[strT s]).length:=(by simp);rw [e,List.take_left' rfl]
    simp
   ·intro u hu
    simp only [List.mem_toArray,List.mem_append] at hu;rcases hu with (hu|hu)|hu
    ·exact hall u (by simpa using List.mem_of_mem_take hu)
    ·simp at hu
     subst hu
     rfl
    ·exact hall u (by simpa using List.mem_of_mem_drop hu)
  ·have holds:∀ j u,(l.map strT)[j]?=some u→w.cell? ((⟨g,0,none⟩:Addr).add j)=some u:=fun j u hj=>by
    have hj1:=(List.getElem?_eq_some_iff.1 hj).1;rw [← htake,List.getElem?_take] at hj
    split at hj
    ·rw [Addr.add_mid,Nat.zero_add]
     exact cell?_cells hg (by simpa using hj)
    ·cases hj
   have hr:=run_append_grow (P:=Tryz.prog) w 26 26 9 i0 _ elemStrs1 hi0 hz0 ⟨g,0,none⟩ l.length cap (l.map strT) (by rw [hz1];simp) holds ⟨g2,0,none⟩ 1 1 [strT s] (by rw [hz1];rfl) hnews (by omega) (by omega) (growslice_fits (by omega) (by rw [hz2];omega));have hgr:=fresh cap (Value.ownBlock (.slice (some ⟨g,0,none⟩) l.length cap));exact ⟨_,_,hr,hgr.1,hgr.2⟩
end Go.Proofs.YtdhnlckfcccnlaaGreat
