/- schedule -/
import Derived.Test.YtoeilaedpibboaaDoorShaPure
import Derived.Test.YtoeilaedpibboaaDoorShaBlk
import Derived.StillTailTactics
import Derived.Deep.QuietTactic
import Derived.BigQuiet
import Derived.Deep.DeepCutAuto
import Derived.Deep.Cut
import Derived.Test.YtoeilaedpibboaaDoorShaSpec
namespace Go.Proofs.YtoeilaedpibboaaDoor
open Go.RowKit
set_option maxRecDepth 100000


/-- A pure function's contract, as a region that only reads asks it. -/
theorem still_of {P : Program} {f : FuncId} {args : Array Value} {w : World} {v : Value} (h : Calls P f args w fun e w' => e = .returned v ∧ w = w') : Calls P f args w fun e w'' => e = .returned v ∧ w'' = w :=
  h.mono fun _ _ ⟨h1, h2⟩ => ⟨h1, h2.symm⟩
/-- What lies in memory while a block's words are filled. -/
structure Filling (bs : List Int) (w wr : World) (ws : List Int) : Prop where
  b0 : Blk wr w.heap.size 49 (ints .u8 bs)
  b1 : Blk wr (w.heap.size + 1) 100 (ints .u32 (List.replicate 64 0))
  b2 : Blk wr (w.heap.size + 1 + 1) 100 (ints .u32 ws)
  bel : Below w.heap.size w wr
theorem Filling.set {bs : List Int} {w wr : World} {ws : List Int} (h : Filling bs w wr ws) (i : Nat) (v : Int) : Filling bs w (wr.setCell ⟨w.heap.size + 1 + 1, i, none⟩ (.int .u32 v)).drew (ws.set i v) := by
  refine ⟨(h.b0.other (by show _ ≠ w.heap.size + 1 + 1; omega) _).drew, (h.b1.other (by show _ ≠ w.heap.size + 1 + 1; omega) _).drew, ?_, (h.bel.setCell (by show _ ≤ w.heap.size + 1 + 1; omega) _).drew⟩
  have := (h.b2.set i (.int .u32 v)).drew
  rwa [ints_set] at this

theorem infoWords : (Tryd.prog.info? 100).map (·.size) = some 64 := by kernel_rfl
set_option maxHeartbeats 1000000 in
theorem schedule_walk (bs : List Int) (hB : bs.length = 64) (w : World) :
    Calls Tryd.prog 73 #[.agg (ints .u8 bs).toArray] w fun e w' => e = .returned (.agg (ints .u32 (Sha.sched bs 48)).toArray) ∧ Below w.heap.size w w' := by
  go_enter Tryd.func73, Tryd.ntmps73
  go_wp2
  go_loopw [6, 4] (fun i _ wr => ∃ k : Nat, k ≤ 16 ∧ i = .int .i64 k ∧ Filling bs w wr (Sha.firstWords bs k ++ List.replicate (64 - k) 0))
    (fun i _ _ => 16 - (intOf i).toNat)
  case atStart =>
    refine ⟨0, by omega, rfl, (((Blk.new _ _ _).alloc _).alloc _), ?_, ?_, (((Below.refl _ _).alloc (Nat.le_refl _) _).alloc (by simp) _).alloc (by simp; omega) _⟩
    · exact (Blk.new2 _ _ _ _ _ (by simp) (by kernel_rfl)).alloc _
    · exact Blk.new2 _ _ _ _ _ (by simp) (by kernel_rfl)
  case round =>
    obtain ⟨k, hk, rfl, hf⟩ := hrel
    by_cases hlt : k < 16
    · have c0 := hf.b0.cell (ints_getD (k := .u8) (l := bs) (j := 4 * k) (by omega))
      have c1 := hf.b0.cell (ints_getD (k := .u8) (l := bs) (j := 4 * k + 1) (by omega))
      have c2 := hf.b0.cell (ints_getD (k := .u8) (l := bs) (j := 4 * k + 2) (by omega))
      have c3 := hf.b0.cell (ints_getD (k := .u8) (l := bs) (j := 4 * k + 3) (by omega))
      have hl : (Sha.firstWords bs k ++ List.replicate (64 - k) (0 : Int)).length = 64 := by simp [Sha.firstWords_length]; omega
      have d0 := hf.b2.cell (ints_getD (k := .u32) (j := k) (by omega))
      have f0 := hf.b2.free k
      clear hl
      go_wp2
      have e0 : IntKind.i64.wrap (4 * (k : Int)) = 4 * (k : Int) := IntWalk.i64_in _ (by omega)
      have e1 : IntKind.i64.wrap (4 * (k : Int) + 1) = 4 * (k : Int) + 1 := IntWalk.i64_in _ (by omega)
      have e2 : IntKind.i64.wrap (4 * (k : Int) + 2) = 4 * (k : Int) + 2 := IntWalk.i64_in _ (by omega)
      have e3 : IntKind.i64.wrap (4 * (k : Int) + 3) = 4 * (k : Int) + 3 := IntWalk.i64_in _ (by omega)
      have p0 : 0 ≤ 4 * (k : Int) := by omega
      have p1 : 0 ≤ 4 * (k : Int) + 1 := by omega
      have p2 : 0 ≤ 4 * (k : Int) + 2 := by omega
      have p3 : 0 ≤ 4 * (k : Int) + 3 := by omega
      have q0 : 4 * (k : Int) < 64 := by omega
      have q1 : 4 * (k : Int) + 1 < 64 := by omega
      have q2 : 4 * (k : Int) + 2 < 64 := by omega
      have q3 : 4 * (k : Int) + 3 < 64 := by omega
      have t0 : (4 * (k : Int)).toNat = 4 * k := by omega
      have t1 : (4 * (k : Int) + 1).toNat = 4 * k + 1 := by omega
      have t2 : (4 * (k : Int) + 2).toNat = 4 * k + 2 := by omega
      have t3 : (4 * (k : Int) + 3).toNat = 4 * k + 3 := by omega
      have qk : (k : Int) < 64 := by omega
      go_still_tail 31, (by kernel_rfl)
      have HF := Lib.hid hf
      clear hf
      go_wp2
      go_roundw
      case rel =>
        refine ⟨k + 1, by omega, by go_num, ?_⟩
        have := HF.out.set k (Sha.wordAt bs k)
        have e : (Sha.firstWords bs k ++ List.replicate (64 - k) (0 : Int)).set k (Sha.wordAt bs k) = Sha.firstWords bs (k + 1) ++ List.replicate (64 - (k + 1)) 0 := by
          have := Sha.set_zeros (Sha.firstWords bs k) (64 - (k + 1)) (Sha.wordAt bs k)
          rw [Sha.firstWords_length, show 64 - (k + 1) + 1 = 64 - k by omega] at this
          exact this
        rw [e] at this
        exact this
      case measure => simp [intOf]; omega
    · have HF : Hid (Filling bs w wr (Sha.sched bs 0 ++ List.replicate 48 0)) := by
        have e : k = 16 := by omega
        subst e
        exact hf
      clear hf
      go_wp2
      go_loopw [5] (fun i wr => ∃ t : Nat, 16 ≤ t ∧ t ≤ 64 ∧ i = .int .i64 (t : Int) ∧ Filling bs w wr (Sha.sched bs (t - 16) ++ List.replicate (64 - t) 0))
        (fun i _ => 64 - (intOf i).toNat)
      case atStart => exact ⟨16, by omega, by omega, rfl, HF.out⟩
      case round =>
        obtain ⟨t, ht, ht2, rfl, hf⟩ := hrel
        clear HF
        have hl : (Sha.sched bs (t - 16) ++ List.replicate (64 - t) (0 : Int)).length = 64 := by simp [Sha.sched_length]; omega
        have hin : ∀ j, j < t → (Sha.sched bs (t - 16) ++ List.replicate (64 - t) (0 : Int)).getD j 0 = (Sha.sched bs (t - 16)).getD j 0 := fun j hj => by
          simp only [List.getD_eq_getElem?_getD]
          rw [List.getElem?_append_left (by rw [Sha.sched_length]; omega)]
        by_cases hlt : t < 64
        · have c0 := hf.b2.cell (ints_getD (k := .u32) (j := t - 16) (by omega))
          have c1 := hf.b2.cell (ints_getD (k := .u32) (j := t - 15) (by omega))
          have c2 := hf.b2.cell (ints_getD (k := .u32) (j := t - 7) (by omega))
          have c3 := hf.b2.cell (ints_getD (k := .u32) (j := t - 2) (by omega))
          have d0 := hf.b2.cell (ints_getD (k := .u32) (j := t) (by omega))
          rw [hin _ (by omega)] at c0 c1 c2 c3
          have f0 := hf.b2.free t
          have HF := Lib.hid hf
          clear hl hin hf
          go_wp2
          have e0 : IntKind.i64.wrap ((t : Int) - 16) = (t : Int) - 16 := IntWalk.i64_in _ (by omega)
          have e1 : IntKind.i64.wrap ((t : Int) - 15) = (t : Int) - 15 := IntWalk.i64_in _ (by omega)
          have e2 : IntKind.i64.wrap ((t : Int) - 7) = (t : Int) - 7 := IntWalk.i64_in _ (by omega)
          have e3 : IntKind.i64.wrap ((t : Int) - 2) = (t : Int) - 2 := IntWalk.i64_in _ (by omega)
          have p0 : 0 ≤ (t : Int) - 16 := by omega
          have p1 : 0 ≤ (t : Int) - 15 := by omega
          have p2 : 0 ≤ (t : Int) - 7 := by omega
          have p3 : 0 ≤ (t : Int) - 2 := by omega
          have p0' : 16 ≤ (t : Int) := by omega
          have p1' : 15 ≤ (t : Int) := by omega
          have p2' : 7 ≤ (t : Int) := by omega
          have p3' : 2 ≤ (t : Int) := by omega
          have q0 : (t : Int) - 16 < 64 := by omega
          have q1 : (t : Int) - 15 < 64 := by omega
          have q2 : (t : Int) - 7 < 64 := by omega
          have q3 : (t : Int) - 2 < 64 := by omega
          have q4 : (t : Int) < 64 := by omega
          have t0 : ((t : Int) - 16).toNat = t - 16 := by omega
          have t1 : ((t : Int) - 15).toNat = t - 15 := by omega
          have t2 : ((t : Int) - 7).toNat = t - 7 := by omega
          have t3 : ((t : Int) - 2).toNat = t - 2 := by omega
          go_still_tail 23, (by kernel_rfl)
          still_call (still_of (smalls0_walk _ _))
          repeat still_step
          still_call (still_of (smalls1_walk _ _))
          repeat still_step
          refine wpStill_nil ?_
          clear e0 e1 e2 e3 t0 t1 t2 t3
          go_wp2
          go_roundw
          case rel =>
            refine ⟨t + 1, by omega, by omega, by go_num, ?_⟩
            have := HF.out.set t (Sha.nextWord ((Sha.sched bs (t - 16))[t - 16]?.getD 0) ((Sha.sched bs (t - 16))[t - 15]?.getD 0) ((Sha.sched bs (t - 16))[t - 7]?.getD 0) ((Sha.sched bs (t - 16))[t - 2]?.getD 0))
            have e : (Sha.sched bs (t - 16) ++ List.replicate (64 - t) (0 : Int)).set t (Sha.nextWord ((Sha.sched bs (t - 16))[t - 16]?.getD 0) ((Sha.sched bs (t - 16))[t - 15]?.getD 0) ((Sha.sched bs (t - 16))[t - 7]?.getD 0) ((Sha.sched bs (t - 16))[t - 2]?.getD 0)) = Sha.sched bs (t + 1 - 16) ++ List.replicate (64 - (t + 1)) 0 := by
              obtain ⟨n, rfl⟩ : ∃ n, t = 16 + n := ⟨t - 16, by omega⟩
              have := Sha.set_zeros (Sha.sched bs n) (64 - (16 + n + 1)) (Sha.nextWord ((Sha.sched bs n)[n]?.getD 0) ((Sha.sched bs n)[n + 1]?.getD 0) ((Sha.sched bs n)[n + 9]?.getD 0) ((Sha.sched bs n)[n + 14]?.getD 0))
              rw [Sha.sched_length, show 64 - (16 + n + 1) + 1 = 64 - (16 + n) by omega] at this
              rw [show 16 + n - 16 = n by omega, show 16 + n - 15 = n + 1 by omega, show 16 + n - 7 = n + 9 by omega, show 16 + n - 2 = n + 14 by omega, this, show 16 + n + 1 - 16 = n + 1 by omega]
              rfl
            rw [e] at this
            exact this
          case measure => simp [intOf]; omega
        · have HG : Hid (Filling bs w wr (Sha.sched bs 48)) := by
            have e : t = 64 := by omega
            subst e
            rw [show 64 - 64 = 0 from rfl, List.replicate_zero, List.append_nil] at hf
            exact hf
          have hlen : (ints .u32 (Sha.sched bs 48)).toArray.size = 64 := by rw [List.size_toArray, ints_length, Sha.sched_length]
          have hinfo : (Tryd.prog.info? 100).map (·.size) = some (ints .u32 (Sha.sched bs 48)).toArray.size := by rw [hlen]; exact infoWords
          have hthere : Hid (wr.there (w.heap.size + 1) 0 (ints .u32 (Sha.sched bs 48)).toArray.size) := by
            rw [hlen]; exact HG.out.b1.there 0 64 (by rw [ints_length, List.length_replicate]; omega)
          clear hf hl hin hlen
          go_wp2_with (first
            | (refine wpList_load_row rfl 100 _ rfl (w.heap.size + 1 + 1) rfl 100 (ints .u32 (Sha.sched bs 48)).toArray (0, 0) _ HG.out.b2 Tryd.underlying100 rfl hinfo ?_)
            | (refine wpList_store_mid rfl 100 _ _ rfl (w.heap.size + 1) 0 (ints .u32 (Sha.sched bs 48)).toArray rfl rfl hthere.out hinfo (ints_oneCell _ _) ?_))
          have hb := HG.out.b1.setWhole (ints .u32 (Sha.sched bs 48)) (by simp [ints_length, Sha.sched_length])
          have hbl := below_setCells (ints .u32 (Sha.sched bs 48)) HG.out.bel 0 (b := w.heap.size + 1) (by omega)
          refine bodyPost_ret (v := .agg (ints .u32 (Sha.sched bs 48)).toArray) ?_ rfl ⟨rfl, hbl⟩
          refine results_cell_row (g := w.heap.size + 1) (t := 100) (cs := (ints .u32 (Sha.sched bs 48)).toArray) (fr := (0, 0)) Tryd.results73 _ _ _ ?_ ?_ Tryd.underlying100 rfl hinfo
          · rfl
          · exact hb
end Go.Proofs.YtoeilaedpibboaaDoor
/- Compress -/
namespace Go.Proofs.YtoeilaedpibboaaDoor
open Go.RowKit

/-- The table of the round constants lies in its variable. -/
def KW (w : World) : Prop := ∀ i, i < 64 → w.cell? ⟨1, i, none⟩ = some (.int .u32 (Sha.K[i]?.getD 0))
theorem KW.lt {w : World} (h : KW w) : 1 < w.heap.size := block_lt_of_cell (h 0 (by omega))
theorem KW.below {B : Nat} {w w' : World} (h : KW w) (hb : Below B w w') (hB : 1 < B) : KW w' := fun i hi => by
  rw [hb.cell (p := ⟨1, i, none⟩) hB]; exact h i hi

theorem KW.upd {b : Nat} {w w' : World} (h : KW w) (hu : Upd b w w') (hb : 1 ≠ b) : KW w' := fun i hi => by
  rw [hu.cell (p := ⟨1, i, none⟩) h.lt hb]; exact h i hi
theorem infoBlock : (Tryd.prog.info? 49).map (·.size) = some 64 := by kernel_rfl
theorem infoState : (Tryd.prog.info? 68).map (·.size) = some 8 := by kernel_rfl

/-- What lies in memory while a block is compressed. -/
structure Mixing (st bs : List Int) (q : Nat) (w wr : World) : Prop where
  b0 : Blk wr w.heap.size 68 (ints .u32 st)
  b2 : Blk wr (w.heap.size + 1 + 1) 68 (ints .u32 (List.replicate 8 0))
  b3 : Blk wr q 100 (ints .u32 (Sha.sched bs 48))
  bel : Below w.heap.size w wr
  gt : w.heap.size + 1 + 1 < q
theorem Mixing.drewN {st bs : List Int} {q : Nat} {w wr : World} (h : Mixing st bs q w wr) (n : Nat) : Mixing st bs q w (wr.drewN n) := by
  exact ⟨h.b0, h.b2, h.b3, ⟨h.bel.os, h.bel.tape, h.bel.output, h.bel.size, h.bel.block⟩, h.gt⟩

theorem Mixing.set {st bs : List Int} {q : Nat} {w wr : World} (h : Mixing st bs q w wr) (i : Nat) (v : Int) : Mixing (st.set i v) bs q w (wr.setCell ⟨w.heap.size, i, none⟩ (.int .u32 v)) := by
  have := h.gt
  refine ⟨?_, h.b2.other (by show _ ≠ w.heap.size; omega) _, h.b3.other (by show _ ≠ w.heap.size; omega) _, h.bel.setCell (Nat.le_refl _) _, h.gt⟩
  have := h.b0.set i (.int .u32 v)
  rwa [ints_set] at this
theorem run_index8 (s : Sha.St) (k : Nat) (hk : k < 8) (w : World) : (Instr.index 68 (.agg #[.int .u32 s.a, .int .u32 s.b, .int .u32 s.c, .int .u32 s.d, .int .u32 s.e, .int .u32 s.f, .int .u32 s.g, .int .u32 s.h]) (.int .i64 (k : Int))).run Tryd.prog w = .ok (.int .u32 (s.list[k]?.getD 0)) w := by
  rcases (by omega : k = 0 ∨ k = 1 ∨ k = 2 ∨ k = 3 ∨ k = 4 ∨ k = 5 ∨ k = 6 ∨ k = 7) with rfl | rfl | rfl | rfl | rfl | rfl | rfl | rfl
  all_goals kernel_rfl

set_option maxHeartbeats 1000000 in
set_option maxRecDepth 100000 in
theorem compress_lit (s0 s1 s2 s3 s4 s5 s6 s7 : Int) (bs : List Int) (hbs : bs.length = 64) (w : World) (hK : KW w) :
    Calls Tryd.prog 63 #[.agg (ints .u32 [s0, s1, s2, s3, s4, s5, s6, s7]).toArray, .agg (ints .u8 bs).toArray] w fun e w' => e = .returned (.agg (ints .u32 (Sha.compress [s0, s1, s2, s3, s4, s5, s6, s7] bs)).toArray) ∧ Below w.heap.size w w' := by
  obtain ⟨st, hst⟩ : ∃ st, st = [s0, s1, s2, s3, s4, s5, s6, s7] := ⟨_, rfl⟩
  have S0 : Hid (Sha.St.of st = ⟨s0, s1, s2, s3, s4, s5, s6, s7⟩) := by subst hst; rfl
  have hlen : st.length = 8 := by subst hst; rfl
  rw [← hst]
  have HST := Lib.hid hst
  clear hst
  have hi1 : (Tryd.prog.info? 49).map (·.size) = some (ints .u8 bs).toArray.size := by rw [List.size_toArray, ints_length, hbs]; exact infoBlock
  have hi2 : (Tryd.prog.info? 100).map (·.size) = some (ints .u32 (Sha.sched bs 48)).length := by rw [ints_length, Sha.sched_length]; exact infoWords
  have hl64 : (ints .u32 (Sha.sched bs 48)).length = (ints .u32 (List.replicate 64 0)).length := by rw [ints_length, Sha.sched_length, ints_length, List.length_replicate]
  have h0 : ∀ c3, Blk (((w.alloc (.cells (ints .u32 st).toArray 68)).alloc (.cells (ints .u8 bs).toArray 49)).alloc c3) w.heap.size 68 (ints .u32 st) := fun c3 => ((Blk.new _ _ _).alloc _).alloc _
  have h1 : ∀ c3, Blk (((w.alloc (.cells (ints .u32 st).toArray 68)).alloc (.cells (ints .u8 bs).toArray 49)).alloc c3) (w.heap.size + 1) 49 (ints .u8 bs) := fun c3 => (Blk.new2 _ _ _ _ _ (by simp) rfl).alloc _
  have H0 := Lib.hid h0
  have H1 := Lib.hid h1
  have HK := Lib.hid hK
  clear h0 h1 hK
  go_enter Tryd.func63, Tryd.ntmps63
  go_wp2_with (refine wpList_load_row rfl 49 _ rfl (w.heap.size + 1) rfl 49 (ints .u8 bs).toArray (0, 0) _ (H1.out _) Tryd.underlying49 rfl hi1 ?_)
  refine (schedule_walk bs hbs _).mono ?_
  rintro e w1 ⟨rfl, hbel⟩
  have B0 := Lib.hid ((H0.out _).below hbel (by simp; omega))
  have B2 : Hid (Blk w1 (w.heap.size + 1 + 1) 68 (ints .u32 (List.replicate 8 0))) := (Blk.new2 ((w.alloc _).alloc _) _ _ _ _ (by simp) (by kernel_rfl)).below hbel (by simp)
  have hsz : w.heap.size + 1 + 1 < w1.heap.size := B2.out.lt
  have BEL : Hid (Below w.heap.size w w1) := ((((Below.refl _ _).alloc (Nat.le_refl _) _).alloc (by simp) _).alloc (by simp; omega) _).trans (hbel.mono (by simp; omega))
  clear hbel H0 H1
  go_wp2_with (refine wpList_store_whole rfl 100 _ _ rfl w1.heap.size (ints .u32 (Sha.sched bs 48)) rfl rfl 100 (ints .u32 (List.replicate 64 0)) (Blk.new2 _ _ _ _ _ rfl (by kernel_rfl)) hl64 hi2 (ints_oneCell _ _) ?_)
  intro w2 hw2 hup hsz2
  have hgt : w.heap.size + 1 + 1 < w1.heap.size := hsz
  have C0 := Lib.hid (hup.blk (B0.out.alloc _) (by omega))
  have C2 := Lib.hid (hup.blk (B2.out.alloc _) (by omega))
  have BEL2 := Lib.hid (hup.below (BEL.out.alloc (by omega) _) (by omega) (by simp; omega))
  have C3 := Lib.hid hw2
  clear hw2 hup hsz2 B0 B2 BEL
  have HM : Hid (Mixing st bs w1.heap.size w w2) := ⟨C0.out, C2.out, C3.out, BEL2.out, hgt⟩
  have c0 : w2.cell? ⟨w.heap.size, 0, none⟩ = some (.int .u32 s0) := C0.out.cell (by rw [HST.out]; rfl)
  have c1 : w2.cell? ⟨w.heap.size, 1, none⟩ = some (.int .u32 s1) := C0.out.cell (by rw [HST.out]; rfl)
  have c2 : w2.cell? ⟨w.heap.size, 2, none⟩ = some (.int .u32 s2) := C0.out.cell (by rw [HST.out]; rfl)
  have c3 : w2.cell? ⟨w.heap.size, 3, none⟩ = some (.int .u32 s3) := C0.out.cell (by rw [HST.out]; rfl)
  have c4 : w2.cell? ⟨w.heap.size, 4, none⟩ = some (.int .u32 s4) := C0.out.cell (by rw [HST.out]; rfl)
  have c5 : w2.cell? ⟨w.heap.size, 5, none⟩ = some (.int .u32 s5) := C0.out.cell (by rw [HST.out]; rfl)
  have c6 : w2.cell? ⟨w.heap.size, 6, none⟩ = some (.int .u32 s6) := C0.out.cell (by rw [HST.out]; rfl)
  have c7 : w2.cell? ⟨w.heap.size, 7, none⟩ = some (.int .u32 s7) := C0.out.cell (by rw [HST.out]; rfl)
  go_wp2
  go_quiet (fail)
  go_wp2
  go_quiet (fail)
  go_wp2
  clear c0 c1 c2 c3 c4 c5 c6 c7 C0 C2 C3 BEL2
  go_loopw [37, 6, 7, 8, 9, 10, 11, 12, 13] (fun i a b c d e f g h wr => ∃ k : Nat, k ≤ 64 ∧ i = .int .i64 k ∧ a = .int .u32 (Sha.steps st bs k).a ∧ b = .int .u32 (Sha.steps st bs k).b ∧ c = .int .u32 (Sha.steps st bs k).c ∧ d = .int .u32 (Sha.steps st bs k).d ∧ e = .int .u32 (Sha.steps st bs k).e ∧ f = .int .u32 (Sha.steps st bs k).f ∧ g = .int .u32 (Sha.steps st bs k).g ∧ h = .int .u32 (Sha.steps st bs k).h ∧ Mixing st bs w1.heap.size w wr)
    (fun i _ _ _ _ _ _ _ _ _ => 64 - (intOf i).toNat)
  case atStart => refine ⟨0, by omega, rfl, ?_⟩; rw [show Sha.steps st bs 0 = Sha.St.of st from rfl, S0.out]; exact ⟨rfl, rfl, rfl, rfl, rfl, rfl, rfl, rfl, (HM.out.drewN _).drewN _⟩
  case round =>
    obtain ⟨k, hk, rfl, rfl, rfl, rfl, rfl, rfl, rfl, rfl, rfl, hm⟩ := hrel
    clear HM
    by_cases hlt : k < 64
    · have cW := hm.b3.cell (ints_getD (k := .u32) (j := k) (by rw [Sha.sched_length]; omega))
      have cK := (HK.out.below hm.bel HK.out.lt) k hlt
      have HM := Lib.hid hm
      have hs : Hid (Sha.steps st bs (k + 1) = Sha.step (Sha.steps st bs k) (Sha.K[k]?.getD 0) ((Sha.sched bs 48)[k]?.getD 0)) := rfl
      clear hm
      generalize Sha.steps st bs k = s at *
      have q0 : (k : Int) < 64 := by omega
      go_wp2
      go_quiet ((first | (go_at_call 74; exact Calls.quiet_of_same (still_of (bigs1_walk _ _))) | (go_at_call 75; exact Calls.quiet_of_same (still_of (choose_walk _ _ _ _)))))
      go_wp2_with (first | (go_at_call 76; refine (bigs0_walk _ _).mono ?_; rintro e w' ⟨rfl, rfl⟩) | (go_at_call 77; refine (majority_walk _ _ _ _).mono ?_; rintro e w' ⟨rfl, rfl⟩))
      go_roundw
      case rel =>
        refine ⟨k + 1, by omega, by go_num, ?_⟩
        rw [hs.out]
        exact ⟨rfl, rfl, rfl, rfl, rfl, rfl, rfl, rfl, HM.out.drewN _⟩
      case measure => simp [intOf]; omega
    · have HM := Lib.hid hm
      have ek : Hid (k = 64) := by unfold Hid; omega
      clear hm
      obtain ⟨s, hs⟩ : ∃ s, Hid (Sha.steps st bs k = s) := ⟨_, rfl⟩
      rw [hs.out]
      have q0 : ¬ ((k : Int) < 64) := by omega
      have q1 : 64 ≤ (k : Int) := by omega
      have q2 : decide ((k : Int) < 64) = false := by simp; omega
      have hfin : Hid (Sha.compress st bs = Sha.addTo st s.list 8) := by
        have e := ek.out
        subst e
        unfold Hid Sha.compress
        rw [hs.out]
      clear hl64 hi2 hi1 hbs hs
      go_wp2
      go_loopw [86, 17, 18] (fun i _ _ wr => ∃ j : Nat, j ≤ 8 ∧ i = .int .i64 j ∧ Mixing (Sha.addTo st s.list j) bs w1.heap.size w wr)
        (fun i _ _ _ => 8 - (intOf i).toNat)
      case atStart => exact ⟨0, by omega, rfl, HM.out⟩
      case round =>
        obtain ⟨j, hj, rfl, hm⟩ := hrel
        have hlj : (Sha.addTo st s.list j).length = 8 := by rw [Sha.addTo_length, hlen]
        clear HM
        by_cases hlt8 : j < 8
        · have hidx := run_index8 s j hlt8
          have cj := hm.b0.cell (ints_getD (k := .u32) (j := j) (by omega))
          have fj := hm.b0.free j
          have HM := Lib.hid hm
          have p0 : (j : Int) < 8 := by omega
          clear hm hlj
          go_wp2
          go_roundw
          case rel => exact ⟨j + 1, by omega, by go_num, HM.out.set j _⟩
          case measure => simp [intOf]; omega
        · have HM : Hid (Mixing (Sha.compress st bs) bs w1.heap.size w wr) := by
            have e : j = 8 := by omega
            subst e
            rw [hfin.out]; exact hm
          have hi8 : (Tryd.prog.info? 68).map (·.size) = some (ints .u32 (Sha.compress st bs)).length := by rw [ints_length, Sha.compress, Sha.addTo_length, hlen]; exact infoState
          have hi8' : (Tryd.prog.info? 68).map (·.size) = some (ints .u32 (Sha.compress st bs)).toArray.size := hi8
          have hl8 : (ints .u32 (Sha.compress st bs)).length = (ints .u32 (List.replicate 8 0)).length := by rw [ints_length, Sha.compress, Sha.addTo_length, hlen, ints_length, List.length_replicate]
          have HI := Lib.hid hi8
          have HI' := Lib.hid hi8'
          have HL := Lib.hid hl8
          have q3 : ¬ ((j : Int) < 8) := by omega
          have q4 : 8 ≤ (j : Int) := by omega
          have q5 : decide ((j : Int) < 8) = false := by simp; omega
          clear hi8 hi8' hl8 hm hlj hlen
          go_wp2_with (first
            | (refine wpList_load_row rfl 68 _ rfl w.heap.size rfl 68 (ints .u32 (Sha.compress st bs)).toArray (0, 0) _ HM.out.b0 Tryd.underlying68 rfl HI'.out ?_)
            | (refine wpList_store_whole rfl 68 _ _ rfl (w.heap.size + 1 + 1) (ints .u32 (Sha.compress st bs)) rfl rfl 68 (ints .u32 (List.replicate 8 0)) HM.out.b2 HL.out HI.out (ints_oneCell _ _) ?_))
          intro w3 hw3 hup _
          refine wpList_nil ?_
          go_wp2
          have hbl := hup.below HM.out.bel (by omega) HM.out.bel.size
          refine bodyPost_ret (v := .agg (ints .u32 (Sha.compress st bs)).toArray) ?_ rfl ⟨rfl, hbl⟩
          refine results_cell_row (g := w.heap.size + 1 + 1) (t := 68) (cs := (ints .u32 (Sha.compress st bs)).toArray) (fr := (0, 0)) Tryd.results63 _ _ _ ?_ ?_ Tryd.underlying68 rfl HI'.out
          · rfl
          · exact hw3
theorem compress_walk (st bs : List Int) (hst : st.length = 8) (hbs : bs.length = 64) (w : World) (hK : KW w) :
    Calls Tryd.prog 63 #[.agg (ints .u32 st).toArray, .agg (ints .u8 bs).toArray] w fun e w' => e = .returned (.agg (ints .u32 (Sha.compress st bs)).toArray) ∧ Below w.heap.size w w' := by
  match st, hst with
  | [s0, s1, s2, s3, s4, s5, s6, s7], _ => exact compress_lit s0 s1 s2 s3 s4 s5 s6 s7 bs hbs w hK
end Go.Proofs.YtoeilaedpibboaaDoor
/- digest returns the 32 bytes of eight words, each with its greatest byte first; firstState, Len are what they say. -/
namespace Go.Proofs.YtoeilaedpibboaaDoor
open Go.RowKit
set_option maxRecDepth 100000

theorem infoDigest : (Tryd.prog.info? 24).map (·.size) = some 32 := by kernel_rfl
/-- What lies in memory while a digest is filled. -/
structure Telling (w wr : World) (ds : List Int) : Prop where
  b1 : Blk wr (w.heap.size + 1) 24 (ints .u8 (List.replicate 32 0))
  b2 : Blk wr (w.heap.size + 1 + 1) 24 (ints .u8 ds)
  bel : Below w.heap.size w wr
theorem Telling.set {w wr : World} {ds : List Int} (h : Telling w wr ds) (i : Nat) (v : Int) : Telling w (wr.setCell ⟨w.heap.size + 1 + 1, i, none⟩ (.int .u8 v)) (ds.set i v) := by
  refine ⟨h.b1.other (by show _ ≠ w.heap.size + 1 + 1; omega) _, ?_, h.bel.setCell (by show _ ≤ w.heap.size + 1 + 1; omega) _⟩
  have := h.b2.set i (.int .u8 v)
  rwa [ints_set] at this

set_option maxHeartbeats 1000000 in
theorem digest_lit (s : Sha.St) (w : World) :
    Calls Tryd.prog 47 #[.agg (ints .u32 s.list).toArray] w fun e w' => e = .returned (.agg (ints .u8 (Sha.digest s.list)).toArray) ∧ Below w.heap.size w w' := by
  have b0 : ∀ o1 o2, Blk (((w.alloc (.cells (ints .u32 s.list).toArray 68)).alloc o1).alloc o2) w.heap.size 68 (ints .u32 s.list) := fun _ _ => ((Blk.new _ _ _).alloc _).alloc _
  have B0 := Lib.hid b0
  clear b0
  have hi8 : (Tryd.prog.info? 68).map (·.size) = some (ints .u32 s.list).toArray.size := infoState
  go_enter Tryd.func47, Tryd.ntmps47
  go_wp2_with (refine wpList_load_row rfl 68 _ rfl w.heap.size rfl 68 (ints .u32 s.list).toArray (0, 0) _ (B0.out _ _) Tryd.underlying68 rfl hi8 ?_)
  clear B0 hi8
  go_loopw [7, 4, 5] (fun i _ _ wr => ∃ k : Nat, k ≤ 8 ∧ i = .int .i64 k ∧ Telling w wr (Sha.digestTo s.list k))
    (fun i _ _ _ => 8 - (intOf i).toNat)
  case atStart =>
    refine ⟨0, by omega, rfl, ?_, ?_, (((Below.refl _ _).alloc (Nat.le_refl _) _).alloc (by simp) _).alloc (by simp; omega) _⟩
    · exact (Blk.new2 _ _ _ _ _ (by simp) (by kernel_rfl)).alloc _
    · exact Blk.new2 _ _ _ _ _ (by simp) (by kernel_rfl)
  case round =>
    obtain ⟨k, hk, rfl, hm⟩ := hrel
    by_cases hlt : k < 8
    · have hl : (Sha.digestTo s.list k).length = 32 := Sha.digestTo_length _ _
      have hidx : ∀ w, (Instr.index 68 (.agg (ints .u32 s.list).toArray) (.int .i64 (k : Int))).run Tryd.prog w = .ok (.int .u32 (s.list[k]?.getD 0)) w := run_index8 s k hlt
      have p0 : (k : Int) < 8 := by omega
      have f0 := hm.b2.free (4 * k)
      have c0 := hm.b2.cell (ints_getD (k := .u8) (j := 4 * k) (by omega))
      have f1 := hm.b2.free (4 * k + 1)
      have c1 := hm.b2.cell (ints_getD (k := .u8) (j := 4 * k + 1) (by omega))
      have f2 := hm.b2.free (4 * k + 2)
      have c2 := hm.b2.cell (ints_getD (k := .u8) (j := 4 * k + 2) (by omega))
      have f3 := hm.b2.free (4 * k + 3)
      have c3 := hm.b2.cell (ints_getD (k := .u8) (j := 4 * k + 3) (by omega))
      have HM := Lib.hid hm
      clear hm hl
      go_wp2
      go_roundw
      case rel => exact ⟨k + 1, by omega, by go_num, (((HM.out.set (4 * k) _).set (4 * k + 1) _).set (4 * k + 2) _).set (4 * k + 3) _⟩
      case measure => simp [intOf]; omega
    · have HM : Hid (Telling w wr (Sha.digest s.list)) := by
        have e : k = 8 := by omega
        subst e; exact hm
      have hi : (Tryd.prog.info? 24).map (·.size) = some (ints .u8 (Sha.digest s.list)).length := by rw [ints_length, Sha.digest, Sha.digestTo_length]; exact infoDigest
      have hi' : (Tryd.prog.info? 24).map (·.size) = some (ints .u8 (Sha.digest s.list)).toArray.size := by rw [List.size_toArray]; exact hi
      have hl : (ints .u8 (Sha.digest s.list)).length = (ints .u8 (List.replicate 32 0)).length := by rw [ints_length, Sha.digest, Sha.digestTo_length, ints_length, List.length_replicate]
      have HI := Lib.hid hi
      have HI' := Lib.hid hi'
      have HL := Lib.hid hl
      have q3 : ¬ ((k : Int) < 8) := by omega
      have q4 : 8 ≤ (k : Int) := by omega
      have q5 : decide ((k : Int) < 8) = false := by simp; omega
      clear hi hi' hl hm
      go_wp2_with (first
        | (refine wpList_load_row rfl 24 _ rfl (w.heap.size + 1 + 1) rfl 24 (ints .u8 (Sha.digest s.list)).toArray (0, 0) _ HM.out.b2 Tryd.underlying24 rfl HI'.out ?_)
        | (refine wpList_store_whole rfl 24 _ _ rfl (w.heap.size + 1) (ints .u8 (Sha.digest s.list)) rfl rfl 24 (ints .u8 (List.replicate 32 0)) HM.out.b1 HL.out HI.out (ints_oneCell _ _) ?_))
      intro w3 hw3 hup _
      refine wpList_nil ?_
      go_wp2
      have hbl := hup.below HM.out.bel (by omega) HM.out.bel.size
      refine bodyPost_ret (v := .agg (ints .u8 (Sha.digest s.list)).toArray) ?_ rfl ⟨rfl, hbl⟩
      refine results_cell_row (g := w.heap.size + 1) (t := 24) (cs := (ints .u8 (Sha.digest s.list)).toArray) (fr := (0, 0)) Tryd.results47 _ _ _ ?_ ?_ Tryd.underlying24 rfl HI'.out
      · rfl
      · exact hw3
theorem digest_walk (st : List Int) (hst : st.length = 8) (w : World) :
    Calls Tryd.prog 47 #[.agg (ints .u32 st).toArray] w fun e w' => e = .returned (.agg (ints .u8 (Sha.digest st)).toArray) ∧ Below w.heap.size w w' := by
  match st, hst with
  | [s0, s1, s2, s3, s4, s5, s6, s7], _ => exact digest_lit ⟨s0, s1, s2, s3, s4, s5, s6, s7⟩ w
end Go.Proofs.YtoeilaedpibboaaDoor
