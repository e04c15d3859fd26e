import Derived.Test.YtmceocgddaaohaaGreatDoorQShwS
import Derived.Test.YtmceocgddaaohaaGreatDoorQPrsQ
namespace Go.Proofs.YtmceocgddaaohaaGreatDoor
open Go Go.RowKit
set_option maxRecDepth 100000
theorem parts_digits:∀ (l:List UInt8),(∀ c∈l,48≤c.toNat∧c.toNat≤57)→partsB false l=true
 |[],_=>rfl
 |c::l,h=>by
  have hc:=h c (by simp);rw [partsB,if_neg (fun e=>by subst e;simp at hc),parts_digits l fun x hx=>h x (List.mem_cons_of_mem _ hx),Bool.and_true]
  simp only [digitB,Bool.or_eq_true,Bool.and_eq_true,decide_eq_true_eq];exact .inl (.inr hc)
theorem words_x:(words16.all fun s=>decide (s.head?≠some 120))=true:=by kernel_rfl
theorem xN_word {j:Nat} (h:j≤100000):wordB (xN j)=true:=by
 have hl:=xN_len h;have hd:=itoa_digits (n:=(j:Int)) (by omega);have hr:reservedB (xN j)=false:=by
  refine decide_eq_false fun hm=>?_;have:=List.all_eq_true.1 words_x _ hm;rw [decide_eq_true_eq] at this;exact this rfl
 rw [wordB,hr,decide_eq_true (by omega)];show (true&&!false&&(letterB 120&&partsB false (Lib.itoa (j:Int))))=true;rw [parts_digits _ hd]
 rfl
theorem nsT_words {t:Tm} (hn:nodesT t≤3000):NsW (nsT t):=by
 intro i hi;rw [nsT,freL_getD hi];obtain ⟨j,hj,e⟩:=frN_is (tk:=tkT t) (k:=i);have:=tk_len hn;rw [e];exact xN_word (by omega)
theorem right_parts {t:Tm} (hr:rightP 4 0 t=true):nodesT t≤3000∧rightT wordB 4 ((0:Nat):Int) ((0:Nat):Int) t=true:=by
 simp only [rightP,Bool.and_eq_true,decide_eq_true_eq] at hr;exact hr.2
theorem whole_back {t:Tm} (hr:rightP 4 0 t=true) (h4:Lv4 t) (r:Toks) (hT:TlK r):∃ x,GdR t x∧wholeP (tkX (nsT t) 0 t++r)=.ok x r:=by
 obtain ⟨hn,h0⟩:=right_parts hr;obtain ⟨x,hx,e⟩:=(PX_all (nsT t) (nsT_words hn) t 0 h0 h4 (by unfold FU;omega)).T FU r (by unfold FU;omega) hT;exact ⟨x,hx,by rw [wholeP,e,PR.bind_ok,if_pos (by rw [hx.2];exact hn)]⟩
theorem read_top {t:Tm} (hr:rightP 4 0 t=true) (h4:Lv4 t) (hl:(wlT t).length≤65536):∃ x,GdR t x∧readA topP (wlT t)=.ok x:=by
 obtain ⟨hn,h0⟩:=right_parts hr;obtain ⟨ps,e1,e2⟩:=SC.whole (tkX_sc (nsT t) (nsT_words hn) t 0 h0 h4);obtain ⟨x,hx,e3⟩:=whole_back hr h4 [] ⟨by kernel_rfl,by rw [nx_nil];decide⟩;rw [List.append_nil] at e3;refine ⟨x,hx,?_⟩;have e4:scanR (wlT t)=(ps,0,0):=scanR_ok (by omega) e2;rw [readA,e4,if_pos rfl,show textsOf ps=tkX (nsT t) 0 t from e1,topP,e3,PR.bind_ok,if_pos rfl]
end Go.Proofs.YtmceocgddaaohaaGreatDoor
