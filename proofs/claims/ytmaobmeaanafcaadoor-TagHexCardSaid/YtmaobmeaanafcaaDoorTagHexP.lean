/- PROVED: for every two digests a and b, TagHex(a, b) returns true (a digest comes back from its digits, and the order of digests is that of their digits), and the arguments read behind the call as before it. CONDITIONS: the package-level table of round constants holds what its initialiser lays (tied to the program's text by the given card); none on a and b. -/
import Derived.Test.YtmaobmeaanafcaaDoorShaFrame
import Derived.Test.YtmaobmeaanafcaaDoorTagHxW
namespace Go.Proofs.YtmaobmeaanafcaaDoor.tagHex
open Go.ChangeShapes Go.WideShapes Go.ChangeAt Go.RowKit
set_option maxRecDepth 100000

theorem contract (H : Type) (enc : TypeId × Value → H) (W : World) (base : Nat) (args : Array Value) (ds gs : List (DataW H)) (before : List MemPlace)
    (hval : ∀ (j : Nat) t v, Tryd.f6.params[j]? = some t → args[j]? = some v → Value.okWide Tryd.prog W .any base t v)
    (hW : DataW.Whole enc Tryd.prog Tryd.f6.params.toList Rows.tagHexSpec.vars false W args.toList ds gs before) (hL : laidMetH Tryd.prog Rows.tagHexRow.laid W) :
    Calls Tryd.prog 6 args W fun e W' => ∃ v, e = .returned v ∧ Rows.tagHexSpec.post enc Tryd.prog Tryd.f6 false true false false W args v W' := by
  have hW' := hW
  obtain ⟨p, q, hA0, hV, rfl, hfz, hnd⟩ := hW
  have hA : DataW.TrodAll enc Tryd.prog W 0 (fun _ => true) true Tryd.f6.params.toList args.toList ds p := hA0
  rw [Tryd.params6] at hA hval
  obtain ⟨v0, vs0, d0, ds0, p0, q0, hargs, rfl, rfl, h0, r0⟩ := trodAll_cons hA
  obtain ⟨v1, vs1, d1, ds1, p1, q1, rfl, rfl, rfl, h1, r1⟩ := trodAll_cons r0
  obtain ⟨rfl, rfl, rfl⟩ := trodAll_nil r1
  obtain rfl : args = #[v0, v1] := by cases args; simp_all
  obtain ⟨rfl, rfl⟩ := trodVars_none hV
  obtain ⟨⟨z0, rfl, hl0, hw0⟩, lt0⟩ := open_ints_array Tryd.underlying24 Tryd.underlying5 cellsByte cellsDigest (hval 0 24 v0 rfl rfl) h0
  obtain ⟨⟨z1, rfl, hl1, hw1⟩, lt1⟩ := open_ints_array Tryd.underlying24 Tryd.underlying5 cellsByte cellsDigest (hval 1 24 v1 rfl rfl) h1
  clear hA0
  simp only [List.append_nil] at hW'
  refine (hexs_main z0 z1 hl0 hl1 (bytes_of_wf hw0) (bytes_of_wf hw1) W (kw_of_laid hL)).mono fun e W' ⟨he, bel⟩ => ?_
  subst he
  have e0 := Below.trod laidOut (by kernel_rfl) (of_decide_eq_true (by kernel_rfl)) h0 bel lt0
  have e1 := Below.trod laidOut (by kernel_rfl) (of_decide_eq_true (by kernel_rfl)) h1 bel lt1
  exact ⟨_, rfl, _, _, _, [], _, [], hW', trodAll_cons_mk (shut_bool Tryd.underlying4 _) trodAll_mk0, (trodAll_cons_mk e0 (trodAll_cons_mk e1 trodAll_mk0)), rfl, bel.frame _, fun h => by cases h⟩

theorem laid_met (os : Os) : laidMet Tryd.prog Rows.tagHexRow.laid ((laidWorld os).forCall (fun _ _ => 0) ⟨#[], #[.agg (ints .u8 (List.replicate 32 0)).toArray, .agg (ints .u8 (List.replicate 32 0)).toArray], []⟩).memory :=
  laidMet_of_run' 8 (by kernel_rfl) (by kernel_rfl)
theorem reads (os : Os) {H : Type} (enc : TypeId × Value → H) : ∃ places, DataW.whole enc Tryd.prog ((laidWorld os).forCall (fun _ _ => 0) ⟨#[], #[.agg (ints .u8 (List.replicate 32 0)).toArray, .agg (ints .u8 (List.replicate 32 0)).toArray], []⟩).memory Tryd.f6.params.toList Rows.tagHexSpec.vars false #[.agg (ints .u8 (List.replicate 32 0)).toArray, .agg (ints .u8 (List.replicate 32 0)).toArray].toList 8 = some ([.agg (List.replicate 32 (.lit (.int .u8 0))), .agg (List.replicate 32 (.lit (.int .u8 0)))], [], places) :=
  ⟨[], by kernel_rfl⟩

set_option maxRecDepth 100000 in
theorem lifted (os : Os) (started : os.Started) (H : Type) (enc : TypeId × Value → H) (F : Stop.Interp) :
    ReturnsInHanded {} Tryd.checked os 6 .any ((OpenSpec.ofChange Rows.tagHexSpec).preRow enc Tryd.prog Tryd.f6 Rows.tagHexRow.domain false Rows.tagHexRow.laid) (((OpenSpec.ofChange Rows.tagHexSpec).at F).post enc Tryd.prog Tryd.f6 false true false false) := by
  obtain ⟨places, hx⟩ := reads os enc
  refine returnsInHanded_of_row (C := Tryd.checked) (s := OpenSpec.ofChange Rows.tagHexSpec) own started (by kernel_rfl) Tryd.func6
    (witness_row_at (enc := enc) (C := Tryd.checked) false (laidWorld os) #[.agg (ints .u8 (List.replicate 32 0)).toArray, .agg (ints .u8 (List.replicate 32 0)).toArray] rfl (by kernel_rfl) (by kernel_rfl) (by kernel_rfl)
      (OpenSpec.preRow_of_cond 8 hx (by kernel_rfl) (fun k hk => by cases hk) (by kernel_rfl) (laid_met os))) ?_
  intro W base args ds gs before hval hW _ _ _ hL _ _
  exact contract H enc W base args ds gs before hval hW hL

theorem said : Rows.TagHexSaid :=
  OpenClaim.holds_of_cond 6 Tryd.f6 rfl rfl rfl rfl rfl rfl rfl ⟨rfl, rfl, rfl, rfl, rfl⟩ rfl rfl rfl rfl rfl (by kernel_rfl) Tryd.func6 (by kernel_rfl)
    (of_decide_eq_true (by kernel_rfl)) (by unfold Func.isWrapper; first | (rw [if_pos (by decide +kernel)]; kernel_rfl) | (rw [if_neg (by decide +kernel)]; exact ⟨rfl, rfl⟩))
    (fun os started H enc _ F => by rw [OpenClaim.pre_eq_preRow]; exact lifted os started H enc F)

theorem plain (f : FuncId) (fn : Func) (hf : Tryd.pinned.checked.prog.funcNamed "imprimatur/imprimaturlaw02.TagHex" = some f) (hfn : Tryd.pinned.checked.prog.funcs[f]? = some fn) :
    false = Tryd.pinned.checked.prog.looks [] ∧ ∀ (j : Nat) t, fn.params[j]? = some t → Tryd.pinned.checked.prog.wantsStandIn t = false := by
  obtain rfl : f = 6 := Option.some.inj ((show Tryd.prog.funcNamed "imprimatur/imprimaturlaw02.TagHex" = some 6 by kernel_rfl).symm.trans hf) |>.symm
  obtain rfl : fn = Tryd.f6 := (Option.some.inj (Tryd.func6.symm.trans hfn)).symm
  refine ⟨by kernel_rfl, fun j t ht => ?_⟩
  rw [Tryd.params6] at ht
  have hm : t ∈ [24, 24] := by simpa using Array.mem_of_getElem? ht
  exact (show ∀ t ∈ [24, 24], Tryd.prog.wantsStandIn t = false from fun t h => List.all_eq_true.1 (show ([24, 24].all fun t => !Tryd.prog.wantsStandIn t) = true by kernel_rfl) t h |> fun h => by simpa using h) t hm

/-- THE CARD. -/
theorem card : Rows.TagHexCardSaid :=
  Claim7.holds_tied_plain_at .later [] _ _ _ _ said (fun _ h => by cases h) (by kernel_rfl) (fun _ h => by cases h) tagHex_row_tie rfl ⟨rfl, rfl⟩ (by kernel_rfl) rfl plain (by kernel_rfl)
end Go.Proofs.YtmaobmeaanafcaaDoor.tagHex
