/- schedule -/
import Derived.Test.YtpafgoaeokgfcaaGreatDoorShaPure
import Derived.Test.YtpafgoaeokgfcaaGreatDoorShaBlk
import Derived.StillTailTactics
namespace Go.Proofs.YtpafgoaeokgfcaaGreatDoor
open Go.RowKit
set_option maxRecDepth 100000


/-- A pure function's contract, as a region that only reads asks it. -/
theorem still_of {P : Program} {f : FuncId} {args : Array Value} {w : World} {v : Value} (h : Calls P f args w fun e w' => e = .returned v ∧ w = w') : Calls P f args w fun e w'' => e = .returned v ∧ w'' = w :=
  h.mono fun _ _ ⟨h1, h2⟩ => ⟨h1, h2.symm⟩
/-- What lies in memory while a block's words are filled. -/
structure Filling (bs : List Int) (w wr : World) (ws : List Int) : Prop where
  b0 : Blk wr w.heap.size 78 (ints .u8 bs)
  b1 : Blk wr (w.heap.size + 1) 148 (ints .u32 (List.replicate 64 0))
  b2 : Blk wr (w.heap.size + 1 + 1) 148 (ints .u32 ws)
  bel : Below w.heap.size w wr
theorem Filling.set {bs : List Int} {w wr : World} {ws : List Int} (h : Filling bs w wr ws) (i : Nat) (v : Int) : Filling bs w (wr.setCell ⟨w.heap.size + 1 + 1, i, none⟩ (.int .u32 v)).drew (ws.set i v) := by
  refine ⟨(h.b0.other (by show _ ≠ w.heap.size + 1 + 1; omega) _).drew, (h.b1.other (by show _ ≠ w.heap.size + 1 + 1; omega) _).drew, ?_, (h.bel.setCell (by show _ ≤ w.heap.size + 1 + 1; omega) _).drew⟩
  have := (h.b2.set i (.int .u32 v)).drew
  rwa [ints_set] at this

theorem infoWords : (Tryz.prog.info? 148).map (·.size) = some 64 := by kernel_rfl
set_option maxHeartbeats 1000000 in
theorem schedule_walk (bs : List Int) (hB : bs.length = 64) (w : World) :
    Calls Tryz.prog 99 #[.agg (ints .u8 bs).toArray] w fun e w' => e = .returned (.agg (ints .u32 (Sha.sched bs 48)).toArray) ∧ Below w.heap.size w w' := by
  go_enter Tryz.func99, Tryz.ntmps99
  go_wp2
  go_loopw [6, 4] (fun i _ wr => ∃ k : Nat, k ≤ 16 ∧ i = .int .i64 k ∧ Filling bs w wr (Sha.firstWords bs k ++ List.replicate (64 - k) 0))
    (fun i _ _ => 16 - (intOf i).toNat)
  case atStart =>
    refine ⟨0, by omega, rfl, (((Blk.new _ _ _).alloc _).alloc _), ?_, ?_, (((Below.refl _ _).alloc (Nat.le_refl _) _).alloc (by simp) _).alloc (by simp; omega) _⟩
    · exact (Blk.new2 _ _ _ _ _ (by simp) (by kernel_rfl)).alloc _
    · exact Blk.new2 _ _ _ _ _ (by simp) (by kernel_rfl)
  case round =>
    obtain ⟨k, hk, rfl, hf⟩ := hrel
    by_cases hlt : k < 16
    · have c0 := hf.b0.cell (ints_getD (k := .u8) (l := bs) (j := 4 * k) (by omega))
      have c1 := hf.b0.cell (ints_getD (k := .u8) (l := bs) (j := 4 * k + 1) (by omega))
      have c2 := hf.b0.cell (ints_getD (k := .u8) (l := bs) (j := 4 * k + 2) (by omega))
      have c3 := hf.b0.cell (ints_getD (k := .u8) (l := bs) (j := 4 * k + 3) (by omega))
      have hl : (Sha.firstWords bs k ++ List.replicate (64 - k) (0 : Int)).length = 64 := by simp [Sha.firstWords_length]; omega
      have d0 := hf.b2.cell (ints_getD (k := .u32) (j := k) (by omega))
      have f0 := hf.b2.free k
      clear hl
      go_wp2
      have e0 : IntKind.i64.wrap (4 * (k : Int)) = 4 * (k : Int) := IntWalk.i64_in _ (by omega)
      have e1 : IntKind.i64.wrap (4 * (k : Int) + 1) = 4 * (k : Int) + 1 := IntWalk.i64_in _ (by omega)
      have e2 : IntKind.i64.wrap (4 * (k : Int) + 2) = 4 * (k : Int) + 2 := IntWalk.i64_in _ (by omega)
      have e3 : IntKind.i64.wrap (4 * (k : Int) + 3) = 4 * (k : Int) + 3 := IntWalk.i64_in _ (by omega)
      have p0 : 0 ≤ 4 * (k : Int) := by omega
      have p1 : 0 ≤ 4 * (k : Int) + 1 := by omega
      have p2 : 0 ≤ 4 * (k : Int) + 2 := by omega
      have p3 : 0 ≤ 4 * (k : Int) + 3 := by omega
      have q0 : 4 * (k : Int) < 64 := by omega
      have q1 : 4 * (k : Int) + 1 < 64 := by omega
      have q2 : 4 * (k : Int) + 2 < 64 := by omega
      have q3 : 4 * (k : Int) + 3 < 64 := by omega
      have t0 : (4 * (k : Int)).toNat = 4 * k := by omega
      have t1 : (4 * (k : Int) + 1).toNat = 4 * k + 1 := by omega
      have t2 : (4 * (k : Int) + 2).toNat = 4 * k + 2 := by omega
      have t3 : (4 * (k : Int) + 3).toNat = 4 * k + 3 := by omega
      have qk : (k : Int) < 64 := by omega
      go_still_tail 31, (by kernel_rfl)
      have HF := Lib.hid hf
      clear hf
      go_wp2
      go_roundw
      case rel =>
        refine ⟨k + 1, by omega, by go_num, ?_⟩
        have := HF.out.set k (Sha.wordAt bs k)
        have e : (Sha.firstWords bs k ++ List.replicate (64 - k) (0 : Int)).set k (Sha.wordAt bs k) = Sha.firstWords bs (k + 1) ++ List.replicate (64 - (k + 1)) 0 := by
          have := Sha.set_zeros (Sha.firstWords bs k) (64 - (k + 1)) (Sha.wordAt bs k)
          rw [Sha.firstWords_length, show 64 - (k + 1) + 1 = 64 - k by omega] at this
          exact this
        rw [e] at this
        exact this
      case measure => simp [intOf]; omega
    · have HF : Hid (Filling bs w wr (Sha.sched bs 0 ++ List.replicate 48 0)) := by
        have e : k = 16 := by omega
        subst e
        exact hf
      clear hf
      go_wp2
      go_loopw [5] (fun i wr => ∃ t : Nat, 16 ≤ t ∧ t ≤ 64 ∧ i = .int .i64 (t : Int) ∧ Filling bs w wr (Sha.sched bs (t - 16) ++ List.replicate (64 - t) 0))
        (fun i _ => 64 - (intOf i).toNat)
      case atStart => exact ⟨16, by omega, by omega, rfl, HF.out⟩
      case round =>
        obtain ⟨t, ht, ht2, rfl, hf⟩ := hrel
        clear HF
        have hl : (Sha.sched bs (t - 16) ++ List.replicate (64 - t) (0 : Int)).length = 64 := by simp [Sha.sched_length]; omega
        have hin : ∀ j, j < t → (Sha.sched bs (t - 16) ++ List.replicate (64 - t) (0 : Int)).getD j 0 = (Sha.sched bs (t - 16)).getD j 0 := fun j hj => by
          simp only [List.getD_eq_getElem?_getD]
          rw [List.getElem?_append_left (by rw [Sha.sched_length]; omega)]
        by_cases hlt : t < 64
        · have c0 := hf.b2.cell (ints_getD (k := .u32) (j := t - 16) (by omega))
          have c1 := hf.b2.cell (ints_getD (k := .u32) (j := t - 15) (by omega))
          have c2 := hf.b2.cell (ints_getD (k := .u32) (j := t - 7) (by omega))
          have c3 := hf.b2.cell (ints_getD (k := .u32) (j := t - 2) (by omega))
          have d0 := hf.b2.cell (ints_getD (k := .u32) (j := t) (by omega))
          rw [hin _ (by omega)] at c0 c1 c2 c3
          have f0 := hf.b2.free t
          have HF := Lib.hid hf
          clear hl hin hf
          go_wp2
          have e0 : IntKind.i64.wrap ((t : Int) - 16) = (t : Int) - 16 := IntWalk.i64_in _ (by omega)
          have e1 : IntKind.i64.wrap ((t : Int) - 15) = (t : Int) - 15 := IntWalk.i64_in _ (by omega)
          have e2 : IntKind.i64.wrap ((t : Int) - 7) = (t : Int) - 7 := IntWalk.i64_in _ (by omega)
          have e3 : IntKind.i64.wrap ((t : Int) - 2) = (t : Int) - 2 := IntWalk.i64_in _ (by omega)
          have p0 : 0 ≤ (t : Int) - 16 := by omega
          have p1 : 0 ≤ (t : Int) - 15 := by omega
          have p2 : 0 ≤ (t : Int) - 7 := by omega
          have p3 : 0 ≤ (t : Int) - 2 := by omega
          have p0' : 16 ≤ (t : Int) := by omega
          have p1' : 15 ≤ (t : Int) := by omega
          have p2' : 7 ≤ (t : Int) := by omega
          have p3' : 2 ≤ (t : Int) := by omega
          have q0 : (t : Int) - 16 < 64 := by omega
          have q1 : (t : Int) - 15 < 64 := by omega
          have q2 : (t : Int) - 7 < 64 := by omega
          have q3 : (t : Int) - 2 < 64 := by omega
          have q4 : (t : Int) < 64 := by omega
          have t0 : ((t : Int) - 16).toNat = t - 16 := by omega
          have t1 : ((t : Int) - 15).toNat = t - 15 := by omega
          have t2 : ((t : Int) - 7).toNat = t - 7 := by omega
          have t3 : ((t : Int) - 2).toNat = t - 2 := by omega
          go_still_tail 23, (by kernel_rfl)
          still_call (still_of (smalls0_walk _ _))
          repeat still_step
          still_call (still_of (smalls1_walk _ _))
          repeat still_step
          refine wpStill_nil ?_
          clear e0 e1 e2 e3 t0 t1 t2 t3
          go_wp2
          go_roundw
          case rel =>
            refine ⟨t + 1, by omega, by omega, by go_num, ?_⟩
            have := HF.out.set t (Sha.nextWord ((Sha.sched bs (t - 16))[t - 16]?.getD 0) ((Sha.sched bs (t - 16))[t - 15]?.getD 0) ((Sha.sched bs (t - 16))[t - 7]?.getD 0) ((Sha.sched bs (t - 16))[t - 2]?.getD 0))
            have e : (Sha.sched bs (t - 16) ++ List.replicate (64 - t) (0 : Int)).set t (Sha.nextWord ((Sha.sched bs (t - 16))[t - 16]?.getD 0) ((Sha.sched bs (t - 16))[t - 15]?.getD 0) ((Sha.sched bs (t - 16))[t - 7]?.getD 0) ((Sha.sched bs (t - 16))[t - 2]?.getD 0)) = Sha.sched bs (t + 1 - 16) ++ List.replicate (64 - (t + 1)) 0 := by
              obtain ⟨n, rfl⟩ : ∃ n, t = 16 + n := ⟨t - 16, by omega⟩
              have := Sha.set_zeros (Sha.sched bs n) (64 - (16 + n + 1)) (Sha.nextWord ((Sha.sched bs n)[n]?.getD 0) ((Sha.sched bs n)[n + 1]?.getD 0) ((Sha.sched bs n)[n + 9]?.getD 0) ((Sha.sched bs n)[n + 14]?.getD 0))
              rw [Sha.sched_length, show 64 - (16 + n + 1) + 1 = 64 - (16 + n) by omega] at this
              rw [show 16 + n - 16 = n by omega, show 16 + n - 15 = n + 1 by omega, show 16 + n - 7 = n + 9 by omega, show 16 + n - 2 = n + 14 by omega, this, show 16 + n + 1 - 16 = n + 1 by omega]
              rfl
            rw [e] at this
            exact this
          case measure => simp [intOf]; omega
        · have HG : Hid (Filling bs w wr (Sha.sched bs 48)) := by
            have e : t = 64 := by omega
            subst e
            rw [show 64 - 64 = 0 from rfl, List.replicate_zero, List.append_nil] at hf
            exact hf
          have hlen : (ints .u32 (Sha.sched bs 48)).toArray.size = 64 := by rw [List.size_toArray, ints_length, Sha.sched_length]
          have hinfo : (Tryz.prog.info? 148).map (·.size) = some (ints .u32 (Sha.sched bs 48)).toArray.size := by rw [hlen]; exact infoWords
          have hthere : Hid (wr.there (w.heap.size + 1) 0 (ints .u32 (Sha.sched bs 48)).toArray.size) := by
            rw [hlen]; exact HG.out.b1.there 0 64 (by rw [ints_length, List.length_replicate]; omega)
          clear hf hl hin hlen
          go_wp2_with (first
            | (refine wpList_load_row rfl 148 _ rfl (w.heap.size + 1 + 1) rfl 148 (ints .u32 (Sha.sched bs 48)).toArray (0, 0) _ HG.out.b2 Tryz.underlying148 rfl hinfo ?_)
            | (refine wpList_store_mid rfl 148 _ _ rfl (w.heap.size + 1) 0 (ints .u32 (Sha.sched bs 48)).toArray rfl rfl hthere.out hinfo (ints_oneCell _ _) ?_))
          have hb := HG.out.b1.setWhole (ints .u32 (Sha.sched bs 48)) (by simp [ints_length, Sha.sched_length])
          have hbl := below_setCells (ints .u32 (Sha.sched bs 48)) HG.out.bel 0 (b := w.heap.size + 1) (by omega)
          refine bodyPost_ret (v := .agg (ints .u32 (Sha.sched bs 48)).toArray) ?_ rfl ⟨rfl, hbl⟩
          refine results_cell_row (g := w.heap.size + 1) (t := 148) (cs := (ints .u32 (Sha.sched bs 48)).toArray) (fr := (0, 0)) Tryz.results99 _ _ _ ?_ ?_ Tryz.underlying148 rfl hinfo
          · rfl
          · exact hb
end Go.Proofs.YtpafgoaeokgfcaaGreatDoor
