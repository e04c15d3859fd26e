import Derived.Test.YtdhnlckfcccnlaaGreatQMovF
namespace Go.Proofs.YtdhnlckfcccnlaaGreat
open Go Go.RowKit
mutual
def mapT (f:Tm→Int→Tm) (d:Int):Tm→Tm
 |.mk k n s l a=>if a.length=0 then f (.mk k n s l []) d else .mk k n s l (mapTs f d k a.length 0 a)
def mapTs (f:Tm→Int→Tm) (d k:Int) (N i:Nat):List Tm→List Tm
 |[]=>[]
 |t::ts=>mapT f (d+moreD k i N) t::mapTs f d k N (i+1) ts
end
mutual
def AllT (P:Tm→Int→Prop) (d:Int):Tm→Prop
 |.mk k n s l a=>(a.length=0→P (.mk k n s l []) d)∧(a.length≠0→k≠1)∧AllTs P d k a.length 0 a
def AllTs (P:Tm→Int→Prop) (d k:Int) (N i:Nat):List Tm→Prop
 |[]=>True
 |t::ts=>AllT P (d+moreD k i N) t∧AllTs P d k N (i+1) ts
end
mutual
theorem all_mono {P Q:Tm→Int→Prop} (h:∀ x e,P x e→Q x e):∀ (t:Tm) (d:Int),AllT P d t→AllT Q d t
 |.mk k n s l a,d,ht=>by
  rw [AllT] at ht ⊢;exact ⟨fun h0=>h _ _ (ht.1 h0),ht.2.1,alls_mono h a d k a.length 0 ht.2.2⟩
theorem alls_mono {P Q:Tm→Int→Prop} (h:∀ x e,P x e→Q x e):∀ (ts:List Tm) (d k:Int) (N i:Nat),AllTs P d k N i ts→AllTs Q d k N i ts
 |[],_,_,_,_,_=>by rw [AllTs];trivial
 |t::ts,d,k,N,i,ht=>by
  rw [AllTs] at ht ⊢;exact ⟨all_mono h t _ ht.1,alls_mono h ts d k N (i+1) ht.2⟩
end
mutual
theorem reb_map {σ:Type} {g:σ→Tm→Int→Option (σ × Tm)} {f:Tm→Int→Tm} {st:σ} (hin:∀ k n s l e,k≠1→g st (.mk k n s l []) e=some (st,.mk k n s l [])):∀ (t:Tm) (d:Int),AllT (fun x e=>g st x e=some (st,f x e)) d t→rebT g st d t=some (st,mapT f d t)
 |.mk k n s l a,d,h=>by
  rw [AllT] at h;rw [rebT,mapT];by_cases ha:a.length=0
  ·rw [h.1 ha]
   simp only [ha,if_true]
  ·rw [hin k n s l d (h.2.1 ha)]
   simp only [ha,if_false,rebs_map hin a d k a.length 0 h.2.2]
   rfl
theorem rebs_map {σ:Type} {g:σ→Tm→Int→Option (σ × Tm)} {f:Tm→Int→Tm} {st:σ} (hin:∀ k n s l e,k≠1→g st (.mk k n s l []) e=some (st,.mk k n s l [])):∀ (ts:List Tm) (d k:Int) (N i:Nat),AllTs (fun x e=>g st x e=some (st,f x e)) d k N i ts→rebTs g st d k N i ts=some (st,mapTs f d k N i ts)
 |[],_,_,_,_,_=>by rw [rebTs,mapTs]
 |t::ts,d,k,N,i,h=>by
  rw [AllTs] at h;rw [rebTs,mapTs,reb_map hin t _ h.1];simp only [rebs_map hin ts d k N (i+1) h.2]
  rfl
end
mutual
theorem reb_val {σ:Type} {g:σ→Tm→Int→Option (σ × Tm)} {f:Tm→Int→Tm} (hin:∀ st k n s l e st' r,k≠1→g st (.mk k n s l []) e=some (st',r)→r=.mk k n s l []):∀ (t:Tm) (d:Int) (st st':σ) (r:Tm),AllT (fun x e=>∀ st st' r,g st x e=some (st',r)→r=f x e) d t→rebT g st d t=some (st',r)→r=mapT f d t
 |.mk k n s l a,d,st,st',r,h,hr=>by
  rw [AllT] at h;rw [rebT] at hr;rw [mapT];cases h1:g st (.mk k n s l []) d with
  |none=>rw [h1] at hr;cases hr
  |some p=>
   obtain ⟨s1,r1⟩:=p;rw [h1] at hr;simp only at hr;by_cases ha:a.length=0
   ·rw [if_pos ha] at hr ⊢
    cases hr
    exact h.1 ha _ _ _ h1
   ·rw [if_neg ha] at hr ⊢
    cases h2:rebTs g s1 d k a.length 0 a with
    |none=>rw [h2] at hr;cases hr
    |some p2=>
     obtain ⟨s2,ys⟩:=p2;rw [h2] at hr;cases hr
     rw [hin _ _ _ _ _ _ _ _ (h.2.1 ha) h1,rebs_val hin a d k a.length 0 _ _ _ h.2.2 h2]
     rfl
theorem rebs_val {σ:Type} {g:σ→Tm→Int→Option (σ × Tm)} {f:Tm→Int→Tm} (hin:∀ st k n s l e st' r,k≠1→g st (.mk k n s l []) e=some (st',r)→r=.mk k n s l []):∀ (ts:List Tm) (d k:Int) (N i:Nat) (st st':σ) (rs:List Tm),AllTs (fun x e=>∀ st st' r,g st x e=some (st',r)→r=f x e) d k N i ts→rebTs g st d k N i ts=some (st',rs)→rs=mapTs f d k N i ts
 |[],_,_,_,_,_,_,_,_,hr=>by
  rw [rebTs] at hr;rw [mapTs];cases hr
  rfl
 |t::ts,d,k,N,i,st,st',rs,h,hr=>by
  rw [AllTs] at h;rw [rebTs] at hr;rw [mapTs];cases h1:rebT g st (d+moreD k i N) t with
  |none=>rw [h1] at hr;cases hr
  |some p=>
   obtain ⟨s1,x⟩:=p;rw [h1] at hr;simp only at hr;cases h2:rebTs g s1 d k N (i+1) ts with
   |none=>rw [h2] at hr;cases hr
   |some p2=>
    obtain ⟨s2,ys⟩:=p2;rw [h2] at hr;cases hr
    rw [reb_val hin t _ _ _ _ h.1 h1,rebs_val hin ts d k N (i+1) _ _ _ h.2 h2]
end
theorem more_eq {k:Int} {i N:Nat} (h:N=argsOf k):moreD k i N=moreT k i:=by
 subst h;unfold moreD moreT argsOf
 (repeat' split)<;>omega
theorem right_args {wo:List UInt8→Bool} {p v deep k n:Int} {s:List UInt8} {l:List Lv} {a:List Tm} (h:rightT wo p v deep (.mk k n s l a)=true):a.length=argsOf k∧headT wo p deep k n s l a.length=true∧(k=1→n<v)∧rightTs wo p v deep k 0 a=true:=by
 simp only [rightT,Bool.and_eq_true] at h;obtain ⟨⟨h1,h2⟩,h3⟩:=h;refine ⟨?_,h1,fun hk=>by simpa [hk] using h2,h3⟩
 simp only [headT,Bool.and_eq_true,decide_eq_true_eq] at h1;exact h1.1.1.1.1.1.2
def LeafR (p v deep d:Int) (x:Tm) (e:Int):Prop:=x.args=[]∧rightT wordB p (v+(e-d)) (deep+(e-d)) x=true
mutual
theorem all_right9 {p v deep d0:Int}:∀ (t:Tm) (d:Int),rightT wordB p (v+(d-d0)) (deep+(d-d0)) t=true→AllT (LeafR p v deep d0) d t
 |.mk k n s l a,d,h=>by
  obtain ⟨h1,h2,h3,h4⟩:=right_args h;rw [AllT];refine ⟨fun ha=>⟨rfl,?_⟩,fun ha hk=>?_,alls_right9 a d k a.length 0 h1 h4⟩
  ·rw [List.eq_nil_of_length_eq_zero ha] at h
   exact h
  ·subst hk
   exact ha (by rw [h1];rfl)
theorem alls_right9 {p v deep d0:Int}:∀ (ts:List Tm) (d k:Int) (N i:Nat),N=argsOf k→rightTs wordB p (v+(d-d0)) (deep+(d-d0)) k i ts=true→AllTs (LeafR p v deep d0) d k N i ts
 |[],_,_,_,_,_,_=>by rw [AllTs];trivial
 |t::ts,d,k,N,i,hN,h=>by
  rw [rightTs,Bool.and_eq_true] at h;rw [AllTs,more_eq hN];refine ⟨all_right9 t _ ?_,alls_right9 ts d k N (i+1) hN h.2⟩;rw [show v+(d+moreT k i-d0)=v+(d-d0)+moreT k i by omega,show deep+(d+moreT k i-d0)=deep+(d-d0)+moreT k i by omega];exact h.1
end
def shF (b:Int) (x:Tm) (e:Int):Tm:=(shN b 0 x e).getD x
theorem shN_no {b e k n:Int} {s:List UInt8} {l:List Lv} (h:¬ (k=1∧0≤n-e)):shN b 0 (.mk k n s l []) e=some (.mk k n s l []):=if_neg h
theorem shN_yes {b e k n:Int} {s:List UInt8} {l:List Lv} (hk:k=1) (h0:0≤n-e) (h1:0≤n+b-e):shN b 0 (.mk k n s l []) e=some (.mk k (n+b) s l []):=(if_pos ⟨hk,h0⟩).trans (if_pos h1)
theorem shF_no {b e k n:Int} {s:List UInt8} {l:List Lv} (h:¬ (k=1∧0≤n-e)):shF b (.mk k n s l []) e=.mk k n s l []:=by rw [shF,shN_no h];rfl
theorem shF_yes {b e k n:Int} {s:List UInt8} {l:List Lv} (hk:k=1) (h0:0≤n-e) (h1:0≤n+b-e):shF b (.mk k n s l []) e=.mk k (n+b) s l []:=by rw [shF,shN_yes hk h0 h1];rfl
theorem shG_in {b:Int} (k n:Int) (s:List UInt8) (l:List Lv) (e:Int) (h:k≠1):shG b 0 () (.mk k n s l []) e=some ((),.mk k n s l []):=by simp [shG,shN,Tm.kind,h]
theorem shO_map {b:Int} {t:Tm} (h:AllT (fun x e=>∃ k n s l,x=.mk k n s l []∧(k=1→0≤n-e→0≤n+b-e)) 0 t):shO b 0 t=some (mapT (shF b) 0 t):=by
 unfold shO;rw [reb_map (f:=shF b) shG_in t 0 (all_mono (fun x e hx=>?_) t 0 h)]
 ·rfl
 ·obtain ⟨k,n,s,l,rfl,hx⟩:=hx
  by_cases hk:k=1∧0≤n-e
  ·rw [shF_yes hk.1 hk.2 (hx hk.1 hk.2)]
   rw [shG,shN_yes hk.1 hk.2 (hx hk.1 hk.2)]
   rfl
  ·rw [shF_no hk,shG,shN_no hk]
   rfl
theorem leaf_eq {x:Tm} (h:x.args=[]):∃ k n s l,x=.mk k n s l []:=by
 obtain ⟨k,n,s,l,a⟩:=x;exact ⟨k,n,s,l,by rw [show a=[] from h]⟩
theorem puN_in {xa:List Tm} {st:Int} (k n:Int) (s:List UInt8) (l:List Lv) (e:Int) (h:k≠1):puN xa st (.mk k n s l []) e=some (st,.mk k n s l []):=if_pos (.inl h)
theorem puN_low {xa:List Tm} {st k n e:Int} {s:List UInt8} {l:List Lv} (h:¬ (k=1∧0≤n-e)):puN xa st (.mk k n s l []) e=some (st,.mk k n s l []):=if_pos (by show k≠1∨(xa.length:Int)≤(xa.length:Int)-1-(n-e);omega)
theorem puN_high {xa:List Tm} {st k n e:Int} {s:List UInt8} {l:List Lv} (hk:k=1) (h:(xa.length:Int)≤n-e):puN xa st (.mk k n s l []) e=some (st,.mk k (n-(xa.length:Int)) s l []):=
 (if_neg (by show ¬ (k≠1∨(xa.length:Int)≤(xa.length:Int)-1-(n-e));omega)).trans (if_pos (by show (xa.length:Int)-1-(n-e)<0;omega))
end Go.Proofs.YtdhnlckfcccnlaaGreat
namespace Go.Proofs.YtdhnlckfcccnlaaGreat
open Go Go.RowKit
def putF (xa:List Tm) (x:Tm) (e:Int):Tm:=
 if x.kind=1∧0≤x.n-e then
  (if (xa.length:Int)≤x.n-e then .mk x.kind (x.n-(xa.length:Int)) x.name x.levels x.args
   else match xa[((xa.length:Int)-1-(x.n-e)).toNat]? with
    |none=>x
    |some y=>mapT (shF e) 0 y)
 else x
theorem putF_no {xa:List Tm} {e k n:Int} {s:List UInt8} {l:List Lv} (h:¬ (k=1∧0≤n-e)):putF xa (.mk k n s l []) e=.mk k n s l []:=if_neg h
theorem putF_high {xa:List Tm} {e k n:Int} {s:List UInt8} {l:List Lv} (hk:k=1) (h0:0≤n-e) (h:(xa.length:Int)≤n-e):putF xa (.mk k n s l []) e=.mk k (n-(xa.length:Int)) s l []:=(if_pos ⟨hk,h0⟩).trans (if_pos h)
theorem putF_at {xa:List Tm} {e k n:Int} {s:List UInt8} {l:List Lv} {y:Tm} {j:Nat} (hk:k=1) (h0:0≤n-e) (h:n-e<(xa.length:Int)) (hj:(xa.length:Int)-1-(n-e)=j) (hy:xa[j]?=some y):putF xa (.mk k n s l []) e=mapT (shF e) 0 y:=by
 refine (if_pos ⟨hk,h0⟩).trans ((if_neg (by show ¬ ((xa.length:Int)≤n-e);omega)).trans ?_);show (match xa[((xa.length:Int)-1-(n-e)).toNat]? with|none=>Tm.mk k n s l []|some y=>mapT (shF e) 0 y)=_;rw [hj,Int.toNat_natCast,hy]
theorem puN_at {xa : List Tm} {st k n e : Int} {s : List UInt8} {l : List Lv} (hk : k = 1) (h0 : 0 ≤ n - e) (h : n - e < (xa.length : Int)) : puN xa st (.mk k n s l []) e = match xa[((xa.length : Int) - 1 - (n - e)).toNat]? with
    |none=>none
    |some x=>if 0≤st-(cntT x-1) then (shO e 0 x).map fun r=>(st-(cntT x-1),r) else none:=
 (if_neg (by show ¬ (k≠1∨(xa.length:Int)≤(xa.length:Int)-1-(n-e));omega)).trans (if_neg (by show ¬ ((xa.length:Int)-1-(n-e)<0);omega))
theorem all_right0 {t:Tm} (h:rightP 4 1099511627776 t=true):AllT (LeafR 4 1099511627776 0 0) 0 t:=all_right9 t 0 (by have:=(rightP_parts h).2.2;simpa using this)
theorem shO_val {b:Int} {y r:Tm} (hy:rightP 4 1099511627776 y=true) (h:shO b 0 y=some r):r=mapT (shF b) 0 y:=by
 unfold shO at h;cases h1:rebT (shG b 0) () 0 y with
 |none=>rw [h1] at h;cases h
 |some p=>
  obtain ⟨st,r1⟩:=p;rw [h1] at h;cases h
  refine reb_val (f:=shF b) (fun st k n s l e st' r hk hg=>?_) y 0 () st _ (all_mono (fun x e hx st st' r hg=>?_) y 0 (all_right0 hy)) h1
  ·rw [shG_in k n s l e hk] at hg
   cases hg
   rfl
  ·unfold shG at hg
   unfold shF;cases h2:shN b 0 x e with
   |none=>rw [h2] at hg;cases hg
   |some r2=>rw [h2] at hg;cases hg;rfl
theorem okO_some {o:Option Tm} {r:Tm} (h:okO o=some r):o=some r∧rightP 4 1099511627776 r=true:=by
 unfold okO at h
 split at h
 ·rename_i t
  split at h
  ·rename_i hr
   cases h
   exact ⟨rfl,hr⟩
  ·cases h
 ·cases h
theorem putO_val {xa:List Tm} {t r:Tm} (h:putO xa t=some r):r=mapT (putF xa) 0 t∧(∀ x∈xa,rightP 4 1099511627776 x=true)∧rightP 4 1099511627776 t=true∧rightP 4 1099511627776 r=true:=by
 unfold putO at h
 split at h
 ·rename_i hc
  obtain ⟨h1,h2⟩:=okO_some h;refine ⟨?_,hc.1,hc.2,h2⟩;unfold puO at h1;cases h3:rebT (puN xa) (3000-cntT t) 0 t with
  |none=>rw [h3] at h1;cases h1
  |some p=>
   obtain ⟨st,r1⟩:=p;rw [h3] at h1;cases h1
   refine reb_val (f:=putF xa) (fun st k n s l e st' r hk hg=>?_) t 0 _ st _ (all_mono (fun x e hx st st' r hg=>?_) t 0 (all_right0 hc.2)) h3
   ·rw [puN_in k n s l e hk] at hg
    cases hg
    rfl
   ·obtain ⟨k,n,s,l,rfl⟩:=leaf_eq hx.1
    by_cases hk:k=1∧0≤n-e
    ·by_cases hh:(xa.length:Int)≤n-e
     ·rw [puN_high hk.1 hh] at hg
      cases hg
      rw [putF_high hk.1 hk.2 hh]
     ·rw [puN_at hk.1 hk.2 (by omega)] at hg
      cases h4:xa[((xa.length:Int)-1-(n-e)).toNat]? with
      |none=>rw [h4] at hg;cases hg
      |some y=>
       rw [h4] at hg;simp only at hg
       split at hg
       ·cases h5:shO e 0 y with
        |none=>rw [h5] at hg;cases hg
        |some r2=>
         rw [h5] at hg;cases hg
         rw [putF_at (j:=((xa.length:Int)-1-(n-e)).toNat) hk.1 hk.2 (by omega) (by omega) h4];exact shO_val (hc.1 y (List.mem_of_getElem? h4)) h5
       ·cases hg
    ·rw [puN_low hk] at hg
     cases hg
     rw [putF_no hk]
 ·cases h
end Go.Proofs.YtdhnlckfcccnlaaGreat
