/- Compress -/
import Derived.Test.YtpafgoaeokgfcaaGreatDoorShaSched
import Derived.Deep.QuietTactic
import Derived.BigQuiet
import Derived.Deep.DeepCutAuto
import Derived.Deep.Cut
namespace Go.Proofs.YtpafgoaeokgfcaaGreatDoor
open Go.RowKit

/-- The table of the round constants lies in its variable. -/
def KW (w : World) : Prop := ∀ i, i < 64 → w.cell? ⟨0, i, none⟩ = some (.int .u32 (Sha.K[i]?.getD 0))
theorem KW.lt {w : World} (h : KW w) : 0 < w.heap.size := block_lt_of_cell (h 0 (by omega))
theorem KW.below {B : Nat} {w w' : World} (h : KW w) (hb : Below B w w') (hB : 0 < B) : KW w' := fun i hi => by
  rw [hb.cell (p := ⟨0, i, none⟩) hB]; exact h i hi

theorem KW.upd {b : Nat} {w w' : World} (h : KW w) (hu : Upd b w w') (hb : 0 ≠ b) : KW w' := fun i hi => by
  rw [hu.cell (p := ⟨0, i, none⟩) h.lt hb]; exact h i hi
theorem infoBlock : (Tryz.prog.info? 78).map (·.size) = some 64 := by kernel_rfl
theorem infoState : (Tryz.prog.info? 140).map (·.size) = some 8 := by kernel_rfl

/-- What lies in memory while a block is compressed. -/
structure Mixing (st bs : List Int) (q : Nat) (w wr : World) : Prop where
  b0 : Blk wr w.heap.size 140 (ints .u32 st)
  b2 : Blk wr (w.heap.size + 1 + 1) 140 (ints .u32 (List.replicate 8 0))
  b3 : Blk wr q 148 (ints .u32 (Sha.sched bs 48))
  bel : Below w.heap.size w wr
  gt : w.heap.size + 1 + 1 < q
theorem Mixing.drewN {st bs : List Int} {q : Nat} {w wr : World} (h : Mixing st bs q w wr) (n : Nat) : Mixing st bs q w (wr.drewN n) := by
  exact ⟨h.b0, h.b2, h.b3, ⟨h.bel.os, h.bel.tape, h.bel.output, h.bel.size, h.bel.block⟩, h.gt⟩

theorem Mixing.set {st bs : List Int} {q : Nat} {w wr : World} (h : Mixing st bs q w wr) (i : Nat) (v : Int) : Mixing (st.set i v) bs q w (wr.setCell ⟨w.heap.size, i, none⟩ (.int .u32 v)) := by
  have := h.gt
  refine ⟨?_, h.b2.other (by show _ ≠ w.heap.size; omega) _, h.b3.other (by show _ ≠ w.heap.size; omega) _, h.bel.setCell (Nat.le_refl _) _, h.gt⟩
  have := h.b0.set i (.int .u32 v)
  rwa [ints_set] at this
theorem run_index8 (s : Sha.St) (k : Nat) (hk : k < 8) (w : World) : (Instr.index 140 (.agg #[.int .u32 s.a, .int .u32 s.b, .int .u32 s.c, .int .u32 s.d, .int .u32 s.e, .int .u32 s.f, .int .u32 s.g, .int .u32 s.h]) (.int .i64 (k : Int))).run Tryz.prog w = .ok (.int .u32 (s.list[k]?.getD 0)) w := by
  rcases (by omega : k = 0 ∨ k = 1 ∨ k = 2 ∨ k = 3 ∨ k = 4 ∨ k = 5 ∨ k = 6 ∨ k = 7) with rfl | rfl | rfl | rfl | rfl | rfl | rfl | rfl
  all_goals kernel_rfl

set_option maxHeartbeats 1000000 in
set_option maxRecDepth 100000 in
theorem compress_lit (s0 s1 s2 s3 s4 s5 s6 s7 : Int) (bs : List Int) (hbs : bs.length = 64) (w : World) (hK : KW w) :
    Calls Tryz.prog 98 #[.agg (ints .u32 [s0, s1, s2, s3, s4, s5, s6, s7]).toArray, .agg (ints .u8 bs).toArray] w fun e w' => e = .returned (.agg (ints .u32 (Sha.compress [s0, s1, s2, s3, s4, s5, s6, s7] bs)).toArray) ∧ Below w.heap.size w w' := by
  obtain ⟨st, hst⟩ : ∃ st, st = [s0, s1, s2, s3, s4, s5, s6, s7] := ⟨_, rfl⟩
  have S0 : Hid (Sha.St.of st = ⟨s0, s1, s2, s3, s4, s5, s6, s7⟩) := by subst hst; rfl
  have hlen : st.length = 8 := by subst hst; rfl
  rw [← hst]
  have HST := Lib.hid hst
  clear hst
  have hi1 : (Tryz.prog.info? 78).map (·.size) = some (ints .u8 bs).toArray.size := by rw [List.size_toArray, ints_length, hbs]; exact infoBlock
  have hi2 : (Tryz.prog.info? 148).map (·.size) = some (ints .u32 (Sha.sched bs 48)).length := by rw [ints_length, Sha.sched_length]; exact infoWords
  have hl64 : (ints .u32 (Sha.sched bs 48)).length = (ints .u32 (List.replicate 64 0)).length := by rw [ints_length, Sha.sched_length, ints_length, List.length_replicate]
  have h0 : ∀ c3, Blk (((w.alloc (.cells (ints .u32 st).toArray 140)).alloc (.cells (ints .u8 bs).toArray 78)).alloc c3) w.heap.size 140 (ints .u32 st) := fun c3 => ((Blk.new _ _ _).alloc _).alloc _
  have h1 : ∀ c3, Blk (((w.alloc (.cells (ints .u32 st).toArray 140)).alloc (.cells (ints .u8 bs).toArray 78)).alloc c3) (w.heap.size + 1) 78 (ints .u8 bs) := fun c3 => (Blk.new2 _ _ _ _ _ (by simp) rfl).alloc _
  have H0 := Lib.hid h0
  have H1 := Lib.hid h1
  have HK := Lib.hid hK
  clear h0 h1 hK
  go_enter Tryz.func98, Tryz.ntmps98
  go_wp2_with (refine wpList_load_row rfl 78 _ rfl (w.heap.size + 1) rfl 78 (ints .u8 bs).toArray (0, 0) _ (H1.out _) Tryz.underlying78 rfl hi1 ?_)
  refine (schedule_walk bs hbs _).mono ?_
  rintro e w1 ⟨rfl, hbel⟩
  have B0 := Lib.hid ((H0.out _).below hbel (by simp; omega))
  have B2 : Hid (Blk w1 (w.heap.size + 1 + 1) 140 (ints .u32 (List.replicate 8 0))) := (Blk.new2 ((w.alloc _).alloc _) _ _ _ _ (by simp) (by kernel_rfl)).below hbel (by simp)
  have hsz : w.heap.size + 1 + 1 < w1.heap.size := B2.out.lt
  have BEL : Hid (Below w.heap.size w w1) := ((((Below.refl _ _).alloc (Nat.le_refl _) _).alloc (by simp) _).alloc (by simp; omega) _).trans (hbel.mono (by simp; omega))
  clear hbel H0 H1
  go_wp2_with (refine wpList_store_whole rfl 148 _ _ rfl w1.heap.size (ints .u32 (Sha.sched bs 48)) rfl rfl 148 (ints .u32 (List.replicate 64 0)) (Blk.new2 _ _ _ _ _ rfl (by kernel_rfl)) hl64 hi2 (ints_oneCell _ _) ?_)
  intro w2 hw2 hup hsz2
  have hgt : w.heap.size + 1 + 1 < w1.heap.size := hsz
  have C0 := Lib.hid (hup.blk (B0.out.alloc _) (by omega))
  have C2 := Lib.hid (hup.blk (B2.out.alloc _) (by omega))
  have BEL2 := Lib.hid (hup.below (BEL.out.alloc (by omega) _) (by omega) (by simp; omega))
  have C3 := Lib.hid hw2
  clear hw2 hup hsz2 B0 B2 BEL
  have HM : Hid (Mixing st bs w1.heap.size w w2) := ⟨C0.out, C2.out, C3.out, BEL2.out, hgt⟩
  have c0 : w2.cell? ⟨w.heap.size, 0, none⟩ = some (.int .u32 s0) := C0.out.cell (by rw [HST.out]; rfl)
  have c1 : w2.cell? ⟨w.heap.size, 1, none⟩ = some (.int .u32 s1) := C0.out.cell (by rw [HST.out]; rfl)
  have c2 : w2.cell? ⟨w.heap.size, 2, none⟩ = some (.int .u32 s2) := C0.out.cell (by rw [HST.out]; rfl)
  have c3 : w2.cell? ⟨w.heap.size, 3, none⟩ = some (.int .u32 s3) := C0.out.cell (by rw [HST.out]; rfl)
  have c4 : w2.cell? ⟨w.heap.size, 4, none⟩ = some (.int .u32 s4) := C0.out.cell (by rw [HST.out]; rfl)
  have c5 : w2.cell? ⟨w.heap.size, 5, none⟩ = some (.int .u32 s5) := C0.out.cell (by rw [HST.out]; rfl)
  have c6 : w2.cell? ⟨w.heap.size, 6, none⟩ = some (.int .u32 s6) := C0.out.cell (by rw [HST.out]; rfl)
  have c7 : w2.cell? ⟨w.heap.size, 7, none⟩ = some (.int .u32 s7) := C0.out.cell (by rw [HST.out]; rfl)
  go_wp2
  go_quiet (fail)
  go_wp2
  go_quiet (fail)
  go_wp2
  clear c0 c1 c2 c3 c4 c5 c6 c7 C0 C2 C3 BEL2
  go_loopw [37, 6, 7, 8, 9, 10, 11, 12, 13] (fun i a b c d e f g h wr => ∃ k : Nat, k ≤ 64 ∧ i = .int .i64 k ∧ a = .int .u32 (Sha.steps st bs k).a ∧ b = .int .u32 (Sha.steps st bs k).b ∧ c = .int .u32 (Sha.steps st bs k).c ∧ d = .int .u32 (Sha.steps st bs k).d ∧ e = .int .u32 (Sha.steps st bs k).e ∧ f = .int .u32 (Sha.steps st bs k).f ∧ g = .int .u32 (Sha.steps st bs k).g ∧ h = .int .u32 (Sha.steps st bs k).h ∧ Mixing st bs w1.heap.size w wr)
    (fun i _ _ _ _ _ _ _ _ _ => 64 - (intOf i).toNat)
  case atStart => refine ⟨0, by omega, rfl, ?_⟩; rw [show Sha.steps st bs 0 = Sha.St.of st from rfl, S0.out]; exact ⟨rfl, rfl, rfl, rfl, rfl, rfl, rfl, rfl, (HM.out.drewN _).drewN _⟩
  case round =>
    obtain ⟨k, hk, rfl, rfl, rfl, rfl, rfl, rfl, rfl, rfl, rfl, hm⟩ := hrel
    clear HM
    by_cases hlt : k < 64
    · have cW := hm.b3.cell (ints_getD (k := .u32) (j := k) (by rw [Sha.sched_length]; omega))
      have cK := (HK.out.below hm.bel HK.out.lt) k hlt
      have HM := Lib.hid hm
      have hs : Hid (Sha.steps st bs (k + 1) = Sha.step (Sha.steps st bs k) (Sha.K[k]?.getD 0) ((Sha.sched bs 48)[k]?.getD 0)) := rfl
      clear hm
      generalize Sha.steps st bs k = s at *
      have q0 : (k : Int) < 64 := by omega
      go_wp2
      go_quiet ((first | (go_at_call 100; exact Calls.quiet_of_same (still_of (bigs1_walk _ _))) | (go_at_call 101; exact Calls.quiet_of_same (still_of (choose_walk _ _ _ _)))))
      go_wp2_with (first | (go_at_call 102; refine (bigs0_walk _ _).mono ?_; rintro e w' ⟨rfl, rfl⟩) | (go_at_call 103; refine (majority_walk _ _ _ _).mono ?_; rintro e w' ⟨rfl, rfl⟩))
      go_roundw
      case rel =>
        refine ⟨k + 1, by omega, by go_num, ?_⟩
        rw [hs.out]
        exact ⟨rfl, rfl, rfl, rfl, rfl, rfl, rfl, rfl, HM.out.drewN _⟩
      case measure => simp [intOf]; omega
    · have HM := Lib.hid hm
      have ek : Hid (k = 64) := by unfold Hid; omega
      clear hm
      obtain ⟨s, hs⟩ : ∃ s, Hid (Sha.steps st bs k = s) := ⟨_, rfl⟩
      rw [hs.out]
      have q0 : ¬ ((k : Int) < 64) := by omega
      have q1 : 64 ≤ (k : Int) := by omega
      have q2 : decide ((k : Int) < 64) = false := by simp; omega
      have hfin : Hid (Sha.compress st bs = Sha.addTo st s.list 8) := by
        have e := ek.out
        subst e
        unfold Hid Sha.compress
        rw [hs.out]
      clear hl64 hi2 hi1 hbs hs
      go_wp2
      go_loopw [86, 17, 18] (fun i _ _ wr => ∃ j : Nat, j ≤ 8 ∧ i = .int .i64 j ∧ Mixing (Sha.addTo st s.list j) bs w1.heap.size w wr)
        (fun i _ _ _ => 8 - (intOf i).toNat)
      case atStart => exact ⟨0, by omega, rfl, HM.out⟩
      case round =>
        obtain ⟨j, hj, rfl, hm⟩ := hrel
        have hlj : (Sha.addTo st s.list j).length = 8 := by rw [Sha.addTo_length, hlen]
        clear HM
        by_cases hlt8 : j < 8
        · have hidx := run_index8 s j hlt8
          have cj := hm.b0.cell (ints_getD (k := .u32) (j := j) (by omega))
          have fj := hm.b0.free j
          have HM := Lib.hid hm
          have p0 : (j : Int) < 8 := by omega
          clear hm hlj
          go_wp2
          go_roundw
          case rel => exact ⟨j + 1, by omega, by go_num, HM.out.set j _⟩
          case measure => simp [intOf]; omega
        · have HM : Hid (Mixing (Sha.compress st bs) bs w1.heap.size w wr) := by
            have e : j = 8 := by omega
            subst e
            rw [hfin.out]; exact hm
          have hi8 : (Tryz.prog.info? 140).map (·.size) = some (ints .u32 (Sha.compress st bs)).length := by rw [ints_length, Sha.compress, Sha.addTo_length, hlen]; exact infoState
          have hi8' : (Tryz.prog.info? 140).map (·.size) = some (ints .u32 (Sha.compress st bs)).toArray.size := hi8
          have hl8 : (ints .u32 (Sha.compress st bs)).length = (ints .u32 (List.replicate 8 0)).length := by rw [ints_length, Sha.compress, Sha.addTo_length, hlen, ints_length, List.length_replicate]
          have HI := Lib.hid hi8
          have HI' := Lib.hid hi8'
          have HL := Lib.hid hl8
          have q3 : ¬ ((j : Int) < 8) := by omega
          have q4 : 8 ≤ (j : Int) := by omega
          have q5 : decide ((j : Int) < 8) = false := by simp; omega
          clear hi8 hi8' hl8 hm hlj hlen
          go_wp2_with (first
            | (refine wpList_load_row rfl 140 _ rfl w.heap.size rfl 140 (ints .u32 (Sha.compress st bs)).toArray (0, 0) _ HM.out.b0 Tryz.underlying140 rfl HI'.out ?_)
            | (refine wpList_store_whole rfl 140 _ _ rfl (w.heap.size + 1 + 1) (ints .u32 (Sha.compress st bs)) rfl rfl 140 (ints .u32 (List.replicate 8 0)) HM.out.b2 HL.out HI.out (ints_oneCell _ _) ?_))
          intro w3 hw3 hup _
          refine wpList_nil ?_
          go_wp2
          have hbl := hup.below HM.out.bel (by omega) HM.out.bel.size
          refine bodyPost_ret (v := .agg (ints .u32 (Sha.compress st bs)).toArray) ?_ rfl ⟨rfl, hbl⟩
          refine results_cell_row (g := w.heap.size + 1 + 1) (t := 140) (cs := (ints .u32 (Sha.compress st bs)).toArray) (fr := (0, 0)) Tryz.results98 _ _ _ ?_ ?_ Tryz.underlying140 rfl HI'.out
          · rfl
          · exact hw3
theorem compress_walk (st bs : List Int) (hst : st.length = 8) (hbs : bs.length = 64) (w : World) (hK : KW w) :
    Calls Tryz.prog 98 #[.agg (ints .u32 st).toArray, .agg (ints .u8 bs).toArray] w fun e w' => e = .returned (.agg (ints .u32 (Sha.compress st bs)).toArray) ∧ Below w.heap.size w w' := by
  match st, hst with
  | [s0, s1, s2, s3, s4, s5, s6, s7], _ => exact compress_lit s0 s1 s2 s3 s4 s5 s6 s7 bs hbs w hK
end Go.Proofs.YtpafgoaeokgfcaaGreatDoor
