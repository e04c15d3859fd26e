import Derived.Test.YtdhnlckfcccnlaaGreatQMovL
import Derived.Test.YtdhnlckfcccnlaaGreatQJobA
namespace Go.Proofs.YtdhnlckfcccnlaaGreat
open Go Go.RowKit
set_option maxRecDepth 100000
def aT:Tm:=conT [97]
def bT:Tm:=conT [98]
def x9:Tm:=appT (varT 1) [varT 0]
def y9:Tm:=appT aT [bT]
def f9:Tm:=bindT 6 (varT 1) [aT]
def g9:Tm:=bindT 6 (varT 3) [aT]
def o9:Tm:=bindT 7 (varT 0) [aT,varT 0]
def r9:Tm:=appT (conT [99]) [bT]
def l91:Lv:=⟨1,[1,-1,-1,-1]⟩
def l92:Lv:=⟨2,[-1,-1,-1,-1]⟩
def l93:Lv:=⟨3,[-1,-1,-1,-1]⟩
def u91:Tm:=.mk 3 0 [] [l91] []
def u93:Tm:=.mk 3 0 [] [l93] []
theorem f9_put:putO [aT,bT] x9=some y9:=by kernel_rfl
theorem f9_pull:pullO [[97],[98]] y9=some x9:=by kernel_rfl
theorem f9_shift:shiftO 2 0 f9=some g9:=by kernel_rfl
theorem f9_no:shiftO (-2) 0 (varT 1)=none:=by kernel_rfl
theorem f9_ren:renameO [97] [99] y9=some r9:=by kernel_rfl
theorem f9_lev:levelsO [l92] u91=some u93:=by kernel_rfl
theorem f9_p0:puO [] aT=some aT:=by kernel_rfl
theorem f9_p1:puO [conT [112]] (varT 0)=some (conT [112]):=by kernel_rfl
theorem f9_p2:puO [conT [112],conT [113]] (varT 0)=some (conT [113]):=by kernel_rfl
theorem f9_c0:pulledO [] aT=some aT:=by kernel_rfl
theorem f9_c1:pulledO [[112]] (conT [112])=some (varT 0):=by kernel_rfl
theorem f9_c2:pulledO [[112],[113]] (conT [113])=some (varT 0):=by kernel_rfl
theorem f9_strip:stripT 7 o9=([aT,varT 0],varT 0):=by kernel_rfl
theorem f9_ro:rightP 4 1099511627776 o9=true:=by kernel_rfl
theorem f9_ra:rightP 4 1099511627776 aT=true:=by kernel_rfl
theorem f9_rp:rightP 4 1099511627776 (conT [112])=true:=by kernel_rfl
theorem f9_rq:rightP 4 1099511627776 (conT [113])=true:=by kernel_rfl
theorem sm_leaf9 (k n:Int) (s:List UInt8) (h:s.length≤100):SmT (.mk k n s [] []):=by
 rw [SmT];exact ⟨Nat.le_trans h (by decide),by decide,by decide,by rw [SmTs];trivial⟩
theorem sm_two9 (k:Int) {x y:Tm} (hx:SmT x) (hy:SmT y):SmT (.mk k 0 [] [] [x,y]):=by
 rw [SmT];exact ⟨by decide,by decide,(by decide:2*80≤reachBytes),by rw [SmTs,SmTs,SmTs];exact ⟨hx,hy,trivial⟩⟩
theorem sm_v (n:Int):SmT (varT n):=sm_leaf9 1 n [] (by decide)
theorem sm_c (c:UInt8):SmT (conT [c]):=sm_leaf9 4 0 [c] (by simp)
theorem sm_x9:SmT x9:=sm_two9 5 (sm_v 1) (sm_v 0)
theorem sm_y9:SmT y9:=sm_two9 5 (sm_c 97) (sm_c 98)
theorem sm_f9:SmT f9:=sm_two9 6 (sm_c 97) (sm_v 1)
theorem sm_o9:SmT o9:=sm_two9 7 (sm_c 97) (sm_two9 7 (sm_v 0) (sm_v 0))
theorem sm_u91:SmT u91:=by
 rw [u91,SmT];exact ⟨by decide,by decide,by decide,by rw [SmTs];trivial⟩
theorem one_tms9 {F:List Nat} {w:World} {t:Tm} {c:List Value} {g:Nat} (hb:Blk w g 25 c) (h:TmAt F w t c) (hg:g∉F):TmsAt F w [t] (.slice (some ⟨g,0,none⟩) 1 1):=
 TmCells.tms (ts:=[t]) (ds:=[c]) ⟨h,trivial⟩ rfl hb (by simp) hg
theorem run_build_strs2' (x y:List UInt8) (w:World):(Instr.buildSlice 26 2 #[(0,strT x),(1,strT y)]).run Tryz.prog w=.ok (.slice (some ⟨w.heap.size,0,none⟩) 2 2) (w.alloc (.cells [strT x,strT y].toArray 9)):=by kernel_rfl
theorem nms_two {w:World} {g:Nat} {x y:List UInt8} (hb:Blk w g 9 [strT x,strT y]):NmsAt w (.slice (some ⟨g,0,none⟩) 2 2) [x,y]:=NmsAt.of (l:=[x,y]) hb.lt hb.whole
theorem ok9:NamesOk [[112],[113]]:=fun i s hs=>by
 match i,hs with
 |0,hs=>cases hs;exact ⟨by kernel_rfl,by decide,by kernel_rfl⟩
 |1,hs=>cases hs;exact ⟨by kernel_rfl,by decide,by kernel_rfl⟩
 |n+2,hs=>simp at hs
theorem f9_rv:rightP 4 1099511627776 (varT 0)=true:=by kernel_rfl
theorem f9_rx:rightP 4 1099511627776 (bindT 7 (varT 0) [])=true:=by kernel_rfl
theorem open9b (co:List Value) (na:Option Addr) (nc:Nat) (w:World) (ht:TmAt [] w o9 co) (hm:NmsAt w (.slice na 2 nc) [[112],[113]]) (hcap:2≤nc):Calls Tryz.prog 23 #[.agg co.toArray,.int .i64 7,.slice na 2 nc] w fun e w'=>∃ la lc cb,e=.returned (.tuple #[.slice la 2 lc,.agg cb.toArray,.bool true])∧LocsAt (List.range w.heap.size) w' (.slice la 2 lc) [([112],aT),([113],conT [112])]∧TmAt (List.range w.heap.size) w' (conT [113]) cb∧Below w.heap.size w w':=by
 have FA:FitT aT:=fit_of (sm_c 97) f9_ra;have FV:FitT (varT 0):=fit_of (sm_v 0) f9_rv;have FP:FitT (conT [112]):=fit_of (sm_c 112) f9_rp;have FQ:FitT (conT [113]):=fit_of (sm_c 113) f9_rq;refine (open_walk (F:=[]) [[112],[113]] 2 na nc 7 o9 co [aT,conT [112]] (conT [113]) w ht sm_o9 (by decide) f9_ro (.inr rfl) rfl (by omega) hcap hm ok9 (by rw [f9_strip];decide) (by rw [f9_strip];exact sm_v 0) (by rw [Hid,f9_strip];decide) rfl ?_ ?_ ?_ ?_ ?_).mono ?_
 ·rw [f9_strip]
  intro i x r hx hr
  match i,hx,hr with
  |0,hx,hr=>cases hx;cases hr;exact f9_p0
  |1,hx,hr=>cases hx;cases hr;exact f9_p1
  |n+2,hx,hr=>simp at hx
 ·rw [f9_strip]
  intro x hx;rcases List.mem_cons.1 hx with rfl|hx
  ·exact FA
  ·rw [List.mem_singleton.1 hx];exact FV
 ·intro x hx
  rcases List.mem_cons.1 hx with rfl|hx
  ·exact FP
  ·rw [List.mem_singleton.1 hx];exact FQ
 ·rw [Hid,f9_strip];exact f9_p2
 ·rw [f9_strip];exact fit_of (sm_v 0) f9_rx
 ·rintro e w' ⟨lv,cr,he,hl,hc,hb⟩
  obtain ⟨la,lc,rfl⟩:=hl.slice;exact ⟨la,lc,cr,he,hl,hc,hb⟩
theorem close9 (cb:List Value) (la:Option Addr) (lc:Nat) (w:World) (ht:TmAt [] w (conT [113]) cb) (hl:LocsAt [] w (.slice la 2 lc) [([112],aT),([113],conT [112])]):Calls Tryz.prog 24 #[.agg cb.toArray,.int .i64 7,.slice la 2 lc] w fun e w'=>∃ cc,e=.returned (.tuple #[.agg cc.toArray,.bool true])∧TmAt [] w' o9 cc∧Below w.heap.size w w':=by
 refine (close_walk (F:=[]) [([112],aT),([113],conT [112])] 2 la lc 7 (conT [113]) cb [aT,varT 0] (varT 0) w ht (sm_c 113) (by decide) f9_rq (.inr rfl) rfl (by omega) hl rfl ?_ ?_ ?_ f9_c2 sm_o9 f9_ro).mono ?_
 ·intro i x r hx hr
  match i,hx,hr with
  |0,hx,hr=>cases hx;cases hr;exact ⟨f9_ra,f9_c0⟩
  |1,hx,hr=>cases hx;cases hr;exact ⟨f9_rp,f9_c1⟩
  |n+2,hx,hr=>simp at hx
 ·intro x hx
  rcases List.mem_cons.1 hx with rfl|hx
  ·exact sm_c 97
  ·rw [List.mem_singleton.1 hx];exact sm_c 112
 ·rw [SmTs,SmTs,SmTs];exact ⟨sm_c 97,sm_v 0,trivial⟩
 ·rintro e w' ⟨cc,he,hc,hb⟩
  exact ⟨cc,he,TmAt.sub (fun k hk=>by cases hk) _ _ hc,hb⟩
end Go.Proofs.YtdhnlckfcccnlaaGreat
