/- The reference's First. -/
import Derived.Test.YtaeghgnhpgkcdaaDoorShaRefPr
namespace Go.Proofs.YtaeghgnhpgkcdaaDoor
open Go.RowKit
set_option maxRecDepth 100000

def sqW (p : Int) : Int := IntKind.u32.wrap (sqRun p 36 0)
def fiTo (ps : List Int) : Nat → List Int
  | 0 => List.replicate 8 0
  | k + 1 => (fiTo ps k).set k (sqW (ps[k]?.getD 0))
theorem fiTo_length (ps : List Int) (k : Nat) : (fiTo ps k).length = 8 := by
  induction k with
  | zero => simp [fiTo]
  | succ k ih => simp [fiTo, ih]
theorem fiTo_iv : fiTo [2, 3, 5, 7, 11, 13, 17, 19] 8 = Sha.iv := by kernel_rfl
structure Fi (w wr : World) (B g cap : Nat) (ps : List Int) (xs : List Int) : Prop where
  r : Blk wr w.heap.size 66 (ints .u32 (List.replicate 8 0))
  o : Blk wr B 66 (ints .u32 xs)
  p : wr.ownsRow (w.heap.size + 1) 77 1 (.slice (some ⟨g, 0, none⟩) 8 cap) 8 (ints .u64 ps)
  bel : Below w.heap.size w wr
  gB : g < B
  rB : w.heap.size < B
theorem Fi.set {w wr : World} {B g cap : Nat} {ps xs : List Int} (h : Fi w wr B g cap ps xs) (i : Nat) (v : Int) : Fi w (wr.setCell ⟨B, i, none⟩ (.int .u32 v)) B g cap ps (xs.set i v) := by
  have h1 := h.gB
  have h2 := h.rB
  refine ⟨h.r.other (by show _ ≠ B; omega) _, ?_, ?_, h.bel.setCell (by show _ ≤ B; omega) _, h1, h2⟩
  · have := h.o.set i (.int .u32 v); rwa [ints_set] at this
  · exact h.p.kept (row := some B) ⟨rfl, rfl, rfl, by simp, fun k _ hk => heap_setCell_other wr ⟨B, i, none⟩ k _ (fun e => hk (by simp [e]))⟩ (.inr (by simp [Value.ownBlock]; omega))

set_option maxHeartbeats 1000000 in
theorem rfirst_walk (w : World) :
    Calls Tryd.prog 43 #[] w fun e w' => e = .returned (.agg (ints .u32 Sha.iv).toArray) ∧ Below w.heap.size w w' := by
  go_enter Tryd.func43, Tryd.ntmps43
  go_wp2_with fail
  refine (primes_walk 8 (by omega) (by rw [prAll_8]; rfl) _).mono ?_
  rintro e w1 ⟨v, rfl, ⟨g, cap, rfl, hown⟩, hbel⟩
  obtain ⟨ps, eps⟩ : ∃ ps : List Int, Hid (ps = [2, 3, 5, 7, 11, 13, 17, 19]) := ⟨_, rfl⟩
  rw [prAll_8, ← eps.out] at hown ⊢
  have hpl : ps.length = 8 := by rw [eps.out]; rfl
  rw [hpl] at hown ⊢
  have HPL := Lib.hid hpl
  have HG := hown.lt g rfl
  have HF : Hid (Fi w (w1.alloc (.cells (ints .u32 (List.replicate 8 0)).toArray 66)) w1.heap.size g cap ps (fiTo ps 0)) := by
    have hsz := hbel.size
    refine ⟨((Blk.new2 w 66 _ (ints .u32 (List.replicate 8 0)) _ rfl (by kernel_rfl)).below hbel (by simp)).alloc _, Blk.new _ _ _, ?_, ?_, HG.2, by simp at hsz; omega⟩
    · have := hown.alloc (.cells (ints .u32 (List.replicate 8 0)).toArray 66); simpa using this
    · refine Below.alloc ?_ (by simp at hsz; omega) _
      exact ((Below.refl _ _).alloc (Nat.le_refl _) _).trans (hbel.mono (by simp))
  clear hown hbel HG hpl
  go_wp2
  go_loopw [3] (fun i wr => ∃ k : Nat, k ≤ 8 ∧ i = .int .i64 k ∧ Fi w wr w1.heap.size g cap ps (fiTo ps k)) (fun i _ => 8 - (intOf i).toNat)
  case atStart => exact ⟨0, by omega, rfl, HF.out⟩
  case round =>
    obtain ⟨k, hk, rfl, hf⟩ := hrel
    clear HF
    by_cases hlt : k < 8
    · have q1 : (k : Int) < 8 := by omega
      have c1 := Own.cell hf.p (j := k) (by rw [HPL.out]; omega)
      have c2 := hf.o.cell (ints_getD (k := .u32) (j := k) (by rw [fiTo_length]; omega))
      have fr := hf.o.free k
      have HF := Lib.hid hf
      clear hf
      go_wp2_with fail
      refine (square_walk _ _).mono ?_
      rintro e w2 ⟨rfl, rfl⟩
      change Hid _ at HF
      go_wp2
      go_roundw
      case rel => exact ⟨k + 1, by omega, by go_num, HF.out.set k _⟩
      case measure => simp [intOf]; omega
    · have HM : Hid (Fi w wr w1.heap.size g cap ps Sha.iv) := by
        have e : k = 8 := by omega
        subst e
        rw [eps.out, fiTo_iv, ← eps.out] at hf
        exact hf
      have q1 : ¬ (k : Int) < 8 := by omega
      clear hf
      go_wp2_with (first
        | (refine wpList_load_row rfl 66 _ rfl w1.heap.size rfl 66 (ints .u32 Sha.iv).toArray (0, 0) _ HM.out.o Tryd.underlying66 rfl infoState ?_)
        | (refine wpList_store_whole rfl 66 _ _ rfl w.heap.size (ints .u32 Sha.iv) rfl rfl 66 (ints .u32 (List.replicate 8 0)) HM.out.r rfl infoState (ints_oneCell _ _) ?_))
      intro w3 hw3 hup _
      refine wpList_nil ?_
      go_wp2
      have hbl := hup.below HM.out.bel (by omega) HM.out.bel.size
      refine bodyPost_ret (v := .agg (ints .u32 Sha.iv).toArray) ?_ rfl ⟨rfl, hbl⟩
      refine results_cell_row (g := w.heap.size) (t := 66) (cs := (ints .u32 Sha.iv).toArray) (fr := (0, 0)) Tryd.results43 _ _ _ ?_ ?_ Tryd.underlying66 rfl infoState
      · rfl
      · exact hw3
end Go.Proofs.YtaeghgnhpgkcdaaDoor
