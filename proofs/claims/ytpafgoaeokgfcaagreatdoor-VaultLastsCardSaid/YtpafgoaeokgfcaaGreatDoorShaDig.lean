/- digest returns the 32 bytes of eight words, each with its greatest byte first; firstState, Len are what they say. -/
import Derived.Test.YtpafgoaeokgfcaaGreatDoorShaComp
import Derived.Test.YtpafgoaeokgfcaaGreatDoorShaSpec
namespace Go.Proofs.YtpafgoaeokgfcaaGreatDoor
open Go.RowKit
set_option maxRecDepth 100000

theorem infoDigest : (Tryz.prog.info? 34).map (·.size) = some 32 := by kernel_rfl
/-- What lies in memory while a digest is filled. -/
structure Telling (w wr : World) (ds : List Int) : Prop where
  b1 : Blk wr (w.heap.size + 1) 34 (ints .u8 (List.replicate 32 0))
  b2 : Blk wr (w.heap.size + 1 + 1) 34 (ints .u8 ds)
  bel : Below w.heap.size w wr
theorem Telling.set {w wr : World} {ds : List Int} (h : Telling w wr ds) (i : Nat) (v : Int) : Telling w (wr.setCell ⟨w.heap.size + 1 + 1, i, none⟩ (.int .u8 v)) (ds.set i v) := by
  refine ⟨h.b1.other (by show _ ≠ w.heap.size + 1 + 1; omega) _, ?_, h.bel.setCell (by show _ ≤ w.heap.size + 1 + 1; omega) _⟩
  have := h.b2.set i (.int .u8 v)
  rwa [ints_set] at this

set_option maxHeartbeats 1000000 in
theorem digest_lit (s : Sha.St) (w : World) :
    Calls Tryz.prog 97 #[.agg (ints .u32 s.list).toArray] w fun e w' => e = .returned (.agg (ints .u8 (Sha.digest s.list)).toArray) ∧ Below w.heap.size w w' := by
  have b0 : ∀ o1 o2, Blk (((w.alloc (.cells (ints .u32 s.list).toArray 140)).alloc o1).alloc o2) w.heap.size 140 (ints .u32 s.list) := fun _ _ => ((Blk.new _ _ _).alloc _).alloc _
  have B0 := Lib.hid b0
  clear b0
  have hi8 : (Tryz.prog.info? 140).map (·.size) = some (ints .u32 s.list).toArray.size := infoState
  go_enter Tryz.func97, Tryz.ntmps97
  go_wp2_with (refine wpList_load_row rfl 140 _ rfl w.heap.size rfl 140 (ints .u32 s.list).toArray (0, 0) _ (B0.out _ _) Tryz.underlying140 rfl hi8 ?_)
  clear B0 hi8
  go_loopw [7, 4, 5] (fun i _ _ wr => ∃ k : Nat, k ≤ 8 ∧ i = .int .i64 k ∧ Telling w wr (Sha.digestTo s.list k))
    (fun i _ _ _ => 8 - (intOf i).toNat)
  case atStart =>
    refine ⟨0, by omega, rfl, ?_, ?_, (((Below.refl _ _).alloc (Nat.le_refl _) _).alloc (by simp) _).alloc (by simp; omega) _⟩
    · exact (Blk.new2 _ _ _ _ _ (by simp) (by kernel_rfl)).alloc _
    · exact Blk.new2 _ _ _ _ _ (by simp) (by kernel_rfl)
  case round =>
    obtain ⟨k, hk, rfl, hm⟩ := hrel
    by_cases hlt : k < 8
    · have hl : (Sha.digestTo s.list k).length = 32 := Sha.digestTo_length _ _
      have hidx : ∀ w, (Instr.index 140 (.agg (ints .u32 s.list).toArray) (.int .i64 (k : Int))).run Tryz.prog w = .ok (.int .u32 (s.list[k]?.getD 0)) w := run_index8 s k hlt
      have p0 : (k : Int) < 8 := by omega
      have f0 := hm.b2.free (4 * k)
      have c0 := hm.b2.cell (ints_getD (k := .u8) (j := 4 * k) (by omega))
      have f1 := hm.b2.free (4 * k + 1)
      have c1 := hm.b2.cell (ints_getD (k := .u8) (j := 4 * k + 1) (by omega))
      have f2 := hm.b2.free (4 * k + 2)
      have c2 := hm.b2.cell (ints_getD (k := .u8) (j := 4 * k + 2) (by omega))
      have f3 := hm.b2.free (4 * k + 3)
      have c3 := hm.b2.cell (ints_getD (k := .u8) (j := 4 * k + 3) (by omega))
      have HM := Lib.hid hm
      clear hm hl
      go_wp2
      go_roundw
      case rel => exact ⟨k + 1, by omega, by go_num, (((HM.out.set (4 * k) _).set (4 * k + 1) _).set (4 * k + 2) _).set (4 * k + 3) _⟩
      case measure => simp [intOf]; omega
    · have HM : Hid (Telling w wr (Sha.digest s.list)) := by
        have e : k = 8 := by omega
        subst e; exact hm
      have hi : (Tryz.prog.info? 34).map (·.size) = some (ints .u8 (Sha.digest s.list)).length := by rw [ints_length, Sha.digest, Sha.digestTo_length]; exact infoDigest
      have hi' : (Tryz.prog.info? 34).map (·.size) = some (ints .u8 (Sha.digest s.list)).toArray.size := by rw [List.size_toArray]; exact hi
      have hl : (ints .u8 (Sha.digest s.list)).length = (ints .u8 (List.replicate 32 0)).length := by rw [ints_length, Sha.digest, Sha.digestTo_length, ints_length, List.length_replicate]
      have HI := Lib.hid hi
      have HI' := Lib.hid hi'
      have HL := Lib.hid hl
      have q3 : ¬ ((k : Int) < 8) := by omega
      have q4 : 8 ≤ (k : Int) := by omega
      have q5 : decide ((k : Int) < 8) = false := by simp; omega
      clear hi hi' hl hm
      go_wp2_with (first
        | (refine wpList_load_row rfl 34 _ rfl (w.heap.size + 1 + 1) rfl 34 (ints .u8 (Sha.digest s.list)).toArray (0, 0) _ HM.out.b2 Tryz.underlying34 rfl HI'.out ?_)
        | (refine wpList_store_whole rfl 34 _ _ rfl (w.heap.size + 1) (ints .u8 (Sha.digest s.list)) rfl rfl 34 (ints .u8 (List.replicate 32 0)) HM.out.b1 HL.out HI.out (ints_oneCell _ _) ?_))
      intro w3 hw3 hup _
      refine wpList_nil ?_
      go_wp2
      have hbl := hup.below HM.out.bel (by omega) HM.out.bel.size
      refine bodyPost_ret (v := .agg (ints .u8 (Sha.digest s.list)).toArray) ?_ rfl ⟨rfl, hbl⟩
      refine results_cell_row (g := w.heap.size + 1) (t := 34) (cs := (ints .u8 (Sha.digest s.list)).toArray) (fr := (0, 0)) Tryz.results97 _ _ _ ?_ ?_ Tryz.underlying34 rfl HI'.out
      · rfl
      · exact hw3
theorem digest_walk (st : List Int) (hst : st.length = 8) (w : World) :
    Calls Tryz.prog 97 #[.agg (ints .u32 st).toArray] w fun e w' => e = .returned (.agg (ints .u8 (Sha.digest st)).toArray) ∧ Below w.heap.size w w' := by
  match st, hst with
  | [s0, s1, s2, s3, s4, s5, s6, s7], _ => exact digest_lit ⟨s0, s1, s2, s3, s4, s5, s6, s7⟩ w
end Go.Proofs.YtpafgoaeokgfcaaGreatDoor
