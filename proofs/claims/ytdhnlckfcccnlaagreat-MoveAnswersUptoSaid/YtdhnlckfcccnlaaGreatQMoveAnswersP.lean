/- PROVED: for every term t, all terms args, integers by and from, texts names and to and levels levels that are together of bulk at most 1048576 (the second form's own bound), MoveAnswers(t, args, by, from, names, levels, to) returns true (every Shift, Put, Pull, Levels and Rename answers what the document says; what is handed in is left as it was), and each argument reads behind the call as before it. CONDITIONS: the second form's bound on the bulk of the arguments. -/
import Derived.Test.YtdhnlckfcccnlaaGreatQJobH
import Derived.Test.YtdhnlckfcccnlaaGreatQMovT
import Derived.Lib.LaidTab
import Derived.ChangeMaps5
namespace Go.Proofs.YtdhnlckfcccnlaaGreat.moveAnswers
open Go.ChangeShapes Go.WideShapes Go.ChangeAt Go.RowKit
set_option maxRecDepth 100000
theorem contract (H : Type) (enc : TypeId × Value → H) (W : World) (base : Nat) (args : Array Value) (ds gs : List (DataW H)) (before : List MemPlace)
    (hval:∀ (j:Nat) t v,Tryz.f3.params[j]?=some t→args[j]?=some v→Value.okWide Tryz.prog W .any base t v)
    (hW:DataW.Whole enc Tryz.prog Tryz.f3.params.toList Rows.moveAnswersSpec.vars false W args.toList ds gs before)
    (hsz0:(DataW.weightsEach Tryz.prog (Tryz.f3.params.toList++(OpenSpec.ofChange Rows.moveAnswersSpec).bare.plain.varTypes Tryz.prog) (ds++gs)).all (·≤reachBytes)=true)
    (hk:Rows.uptoSmall H (ds++gs)=true) :
    Calls Tryz.prog 3 args W fun e W'=>∃ v,e=.returned v∧Rows.moveAnswersSpec.post enc Tryz.prog Tryz.f3 false true false false W args v W':=by
 have hW':=hW;obtain ⟨p,q,hA0,hV,rfl,hfz,hnd⟩:=hW;have hA:DataW.TrodAll enc Tryz.prog W 0 (fun _=>true) true Tryz.f3.params.toList args.toList ds p:=hA0
 rw [Tryz.params3] at hA hval hsz0;obtain ⟨v0,vs0,d0,ds0,p0,q0,hargs,rfl,rfl,h0,r0⟩:=trodAll_cons hA;obtain ⟨v1,vs1,d1,ds1,p1,q1,rfl,rfl,rfl,h1,r1⟩:=trodAll_cons r0;obtain ⟨v2,vs2,d2,ds2,p2,q2,rfl,rfl,rfl,h2,r2⟩:=trodAll_cons r1;obtain ⟨v3,vs3,d3,ds3,p3,q3,rfl,rfl,rfl,h3,r3⟩:=trodAll_cons r2;obtain ⟨v4,vs4,d4,ds4,p4,q4,rfl,rfl,rfl,h4,r4⟩:=trodAll_cons r3;obtain ⟨v5,vs5,d5,ds5,p5,q5,rfl,rfl,rfl,h5,r5⟩:=trodAll_cons r4;obtain ⟨v6,vs6,d6,ds6,p6,q6,rfl,rfl,rfl,h6,r6⟩:=trodAll_cons r5;obtain ⟨rfl,rfl,rfl⟩:=trodAll_nil r6;obtain rfl:args=#[v0,v1,v2,v3,v4,v5,v6]:=(by cases args;simp_all);obtain ⟨rfl,rfl⟩:=trodVars_none hV;have hbk:Rows.uptoBulkAll ([d0,d1,d2,d3,d4,d5,d6]++[])≤1048576:=of_decide_eq_true hk;simp only [List.append_nil,Rows.uptoBulkAll] at hbk;have hs0:∀ n∈d0.weights Tryz.prog 25,n≤reachBytes:=fun n hn=>by
  have:=List.all_eq_true.1 hsz0 n (DataW.weights_mem_each (j:=0) (t:=25) (d:=d0) rfl rfl n hn)
  simpa using this
 obtain ⟨⟨z0,c0,ev0,ht0,st0,nb0⟩,lt0⟩:=open_termB (hval 0 25 v0 rfl rfl) h0 hs0;subst ev0;have hs1:∀ n∈d1.weights Tryz.prog 23,n≤reachBytes:=fun n hn=>by
  have:=List.all_eq_true.1 hsz0 n (DataW.weights_mem_each (j:=1) (t:=23) (d:=d1) rfl rfl n hn)
  simpa using this
 obtain ⟨⟨z1,ht1,st1,nb1⟩,lt1⟩:=open_termsB (hval 1 23 v1 rfl rfl) h1 hs1;obtain ⟨z2,rfl,rfl,rfl,wn2⟩:=open_int Tryz.underlying3 (hval 2 3 v2 rfl rfl) h2;obtain ⟨z3,rfl,rfl,rfl,wn3⟩:=open_int Tryz.underlying3 (hval 3 3 v3 rfl rfl) h3;have hs4:∀ n∈d4.weights Tryz.prog 26,n≤reachBytes:=fun n hn=>by
  have:=List.all_eq_true.1 hsz0 n (DataW.weights_mem_each (j:=4) (t:=26) (d:=d4) rfl rfl n hn)
  simpa using this
 obtain ⟨⟨z4,hp4,hl4⟩,lt4⟩:=open_names9 (hval 4 26 v4 rfl rfl) h4 hs4;have hs5:∀ n∈d5.weights Tryz.prog 22,n≤reachBytes:=fun n hn=>by
  have:=List.all_eq_true.1 hsz0 n (DataW.weights_mem_each (j:=5) (t:=22) (d:=d5) rfl rfl n hn)
  simpa using this
 obtain ⟨⟨z5,hp5⟩,lt5⟩:=open_levels9 (hval 5 22 v5 rfl rfl) h5 hs5;obtain ⟨z6,rfl,rfl,rfl,hz6⟩:=Go.ChangeMaps.open_string Tryz.underlying9 (hval 6 9 v6 rfl rfl) h6;clear hA0;simp only [List.append_nil] at hW';refine (answers_main z0 c0 z1 v1 z2 z3 z4 v4 z5 v5 z6.data.toList W ht0 st0 ht1 st1 (fun x hx=>Nat.le_trans (nb1 x hx) (by omega)) hp4 hl4 hp5).mono fun e W' ⟨he,bel⟩=>?_;subst he;have e0:=Below.trod laidOut (by kernel_rfl) (of_decide_eq_true (by kernel_rfl)) h0 bel lt0;have e1:=Below.trod laidOut (by kernel_rfl) (of_decide_eq_true (by kernel_rfl)) h1 bel lt1;have e4:=Below.trod laidOut (by kernel_rfl) (of_decide_eq_true (by kernel_rfl)) h4 bel lt4;have e5:=Below.trod laidOut (by kernel_rfl) (of_decide_eq_true (by kernel_rfl)) h5 bel lt5;exact ⟨_,rfl,_,_,_,[],_,[],hW',trodAll_cons_mk (shut_bool Tryz.underlying4 _) trodAll_mk0,(trodAll_cons_mk e0 (trodAll_cons_mk e1 (trodAll_cons_mk (shut_int Tryz.underlying3 wn2) (trodAll_cons_mk (shut_int Tryz.underlying3 wn3) (trodAll_cons_mk e4 (trodAll_cons_mk e5 (trodAll_cons_mk (Go.ChangeMaps.shut_string Tryz.underlying9 hz6) trodAll_mk0))))))),rfl,bel.frame _,fun h=>by cases h⟩
theorem laid_met (os:Os):laidMet Tryz.prog Rows.moveAnswersUptoRow.laid (((World.holding Tryz.prog os ⟨#[],#[],[]⟩)).forCall (fun _ _=>0) ⟨#[],#[.agg #[.int .i64 0,.int .i64 0,.string ⟨#[]⟩,.slice none 0 0,.slice none 0 0],.slice none 0 0,.int .i64 0,.int .i64 0,.slice none 0 0,.slice none 0 0,.string ⟨#[]⟩],[]⟩).memory:=
 laidMet_of_run' 8 (by kernel_rfl) (by kernel_rfl)
theorem reads (os:Os) {H:Type} (enc:TypeId × Value→H):∃ places,DataW.whole enc Tryz.prog (((World.holding Tryz.prog os ⟨#[],#[],[]⟩)).forCall (fun _ _=>0) ⟨#[],#[.agg #[.int .i64 0,.int .i64 0,.string ⟨#[]⟩,.slice none 0 0,.slice none 0 0],.slice none 0 0,.int .i64 0,.int .i64 0,.slice none 0 0,.slice none 0 0,.string ⟨#[]⟩],[]⟩).memory Tryz.f3.params.toList Rows.moveAnswersSpec.vars false #[.agg #[.int .i64 0,.int .i64 0,.string ⟨#[]⟩,.slice none 0 0,.slice none 0 0],.slice none 0 0,.int .i64 0,.int .i64 0,.slice none 0 0,.slice none 0 0,.string ⟨#[]⟩].toList 8=some ([.agg [.lit (.int .i64 0),.lit (.int .i64 0),.lit (.string []),.nil,.nil],.nil,.lit (.int .i64 0),.lit (.int .i64 0),.nil,.nil,.lit (.string [])],[],places):=
 ⟨[],by kernel_rfl⟩
set_option maxRecDepth 100000 in
theorem lifted (os : Os) (started : os.Started) (H : Type) (enc : TypeId × Value → H) (F : Stop.Interp) :
    ReturnsInHanded {} Tryz.checked os 3 .any ((Rows.OpenSpec.upto Rows.moveAnswersSpec).preRow enc Tryz.prog Tryz.f3 Rows.moveAnswersUptoRow.domain false Rows.moveAnswersUptoRow.laid) (((Rows.OpenSpec.upto Rows.moveAnswersSpec).at F).post enc Tryz.prog Tryz.f3 false true false false):=by
 obtain ⟨places,hx⟩:=reads os enc;refine returnsInHanded_of_row (C:=Tryz.checked) (s:=(Rows.OpenSpec.upto Rows.moveAnswersSpec)) own started (by kernel_rfl) Tryz.func3
  (witness_row_at (enc:=enc) (C:=Tryz.checked) false ((World.holding Tryz.prog os ⟨#[],#[],[]⟩)) #[.agg #[.int .i64 0,.int .i64 0,.string ⟨#[]⟩,.slice none 0 0,.slice none 0 0],.slice none 0 0,.int .i64 0,.int .i64 0,.slice none 0 0,.slice none 0 0,.string ⟨#[]⟩] rfl (by kernel_rfl) (by kernel_rfl) (by kernel_rfl)
   (OpenSpec.preRow_of_cond 8 hx (by kernel_rfl) (fun k hk=>by cases hk;kernel_rfl) (by kernel_rfl) (laid_met os))) ?_
 intro W base args ds gs before hval hW _ hk hsz _ _ _;exact contract H enc W base args ds gs before hval hW hsz (hk _ rfl)
theorem saidUpto:Rows.MoveAnswersUptoSaid:=
 OpenClaim.holds_of_cond 3 Tryz.f3 rfl rfl rfl rfl rfl rfl rfl ⟨rfl,rfl,rfl,rfl,rfl⟩ rfl rfl rfl rfl rfl (by kernel_rfl) Tryz.func3 (by kernel_rfl)
  (of_decide_eq_true (by kernel_rfl)) (by unfold Func.isWrapper;first|(rw [if_pos (by decide +kernel)];kernel_rfl)|(rw [if_neg (by decide +kernel)];exact ⟨rfl,rfl⟩))
  (fun os started H enc _ F=>by rw [OpenClaim.pre_eq_preRow];exact lifted os started H enc F)
end Go.Proofs.YtdhnlckfcccnlaaGreat.moveAnswers
