/- The reference's taken is Compress with the table's constants. -/
import Derived.Test.YtaeghgnhpgkcdaaDoorShaRefCu
import Derived.Test.YtaeghgnhpgkcdaaDoorShaSpec
namespace Go.Proofs.YtaeghgnhpgkcdaaDoor
open Go.RowKit
set_option maxRecDepth 100000

theorem turn_rot (x : Int) (n : Nat) (h1 : 1 ≤ n) (h2 : n ≤ 31) (w : World) : Calls Tryd.prog 52 #[.int .u32 x, .int .u64 (n : Int)] w fun e w' => e = .returned (.int .u32 (Sha.rot x n)) ∧ w = w' :=
  (turn_walk x n h1 h2 w).mono fun e w' ⟨he, hw⟩ => ⟨by rw [he, Sha.rot_turn], hw⟩
theorem turn_any (x z : Int) (h1 : 1 ≤ z) (h2 : z ≤ 31) (w : World) : Calls Tryd.prog 52 #[.int .u32 x, .int .u64 z] w fun e w' => e = .returned (.int .u32 (Sha.rot x z.toNat)) ∧ w' = w := by
  obtain ⟨n, rfl⟩ := Int.eq_ofNat_of_zero_le (show 0 ≤ z by omega)
  exact still_of (turn_rot x n (by omega) (by omega) w)
theorem turn2 (x : Int) (w : World) : Calls Tryd.prog 52 #[.int .u32 x, .int .u64 2] w fun e w' => e = .returned (.int .u32 (Sha.rot x 2)) ∧ w = w' := turn_rot x 2 (by omega) (by omega) w
theorem turn6 (x : Int) (w : World) : Calls Tryd.prog 52 #[.int .u32 x, .int .u64 6] w fun e w' => e = .returned (.int .u32 (Sha.rot x 6)) ∧ w = w' := turn_rot x 6 (by omega) (by omega) w
theorem turn7 (x : Int) (w : World) : Calls Tryd.prog 52 #[.int .u32 x, .int .u64 7] w fun e w' => e = .returned (.int .u32 (Sha.rot x 7)) ∧ w = w' := turn_rot x 7 (by omega) (by omega) w
theorem turn11 (x : Int) (w : World) : Calls Tryd.prog 52 #[.int .u32 x, .int .u64 11] w fun e w' => e = .returned (.int .u32 (Sha.rot x 11)) ∧ w = w' := turn_rot x 11 (by omega) (by omega) w
theorem turn13 (x : Int) (w : World) : Calls Tryd.prog 52 #[.int .u32 x, .int .u64 13] w fun e w' => e = .returned (.int .u32 (Sha.rot x 13)) ∧ w = w' := turn_rot x 13 (by omega) (by omega) w
theorem turn17 (x : Int) (w : World) : Calls Tryd.prog 52 #[.int .u32 x, .int .u64 17] w fun e w' => e = .returned (.int .u32 (Sha.rot x 17)) ∧ w = w' := turn_rot x 17 (by omega) (by omega) w
theorem turn18 (x : Int) (w : World) : Calls Tryd.prog 52 #[.int .u32 x, .int .u64 18] w fun e w' => e = .returned (.int .u32 (Sha.rot x 18)) ∧ w = w' := turn_rot x 18 (by omega) (by omega) w
theorem turn19 (x : Int) (w : World) : Calls Tryd.prog 52 #[.int .u32 x, .int .u64 19] w fun e w' => e = .returned (.int .u32 (Sha.rot x 19)) ∧ w = w' := turn_rot x 19 (by omega) (by omega) w
theorem turn22 (x : Int) (w : World) : Calls Tryd.prog 52 #[.int .u32 x, .int .u64 22] w fun e w' => e = .returned (.int .u32 (Sha.rot x 22)) ∧ w = w' := turn_rot x 22 (by omega) (by omega) w
theorem turn25 (x : Int) (w : World) : Calls Tryd.prog 52 #[.int .u32 x, .int .u64 25] w fun e w' => e = .returned (.int .u32 (Sha.rot x 25)) ∧ w = w' := turn_rot x 25 (by omega) (by omega) w

/-- The first t words of a block's schedule. -/
def schedTo (bs : List Int) (t : Nat) : List Int := if t ≤ 16 then Sha.firstWords bs t else Sha.sched bs (t - 16)
theorem schedTo_length (bs : List Int) (t : Nat) : (schedTo bs t).length = t := by
  unfold schedTo; split
  · exact Sha.firstWords_length _ _
  · rw [Sha.sched_length]; omega
theorem schedTo_low (bs : List Int) (t : Nat) (h : t < 16) : schedTo bs (t + 1) = schedTo bs t ++ [Sha.wordAt bs t] := by
  unfold schedTo; rw [if_pos (by omega), if_pos (by omega)]; rfl
theorem schedTo_16 (bs : List Int) (t : Nat) (h : 16 ≤ t) : schedTo bs t = Sha.sched bs (t - 16) := by
  unfold schedTo; split
  · have : t = 16 := by omega
    subst this; rfl
  · rfl
theorem schedTo_high (bs : List Int) (t : Nat) (h : 16 ≤ t) : schedTo bs (t + 1) = schedTo bs t ++ [Sha.nextWord ((schedTo bs t)[t - 16]?.getD 0) ((schedTo bs t)[t - 15]?.getD 0) ((schedTo bs t)[t - 7]?.getD 0) ((schedTo bs t)[t - 2]?.getD 0)] := by
  obtain ⟨n, rfl⟩ : ∃ n, t = 16 + n := ⟨t - 16, by omega⟩
  rw [schedTo_16 _ _ (by omega), schedTo_16 _ _ (by omega), show 16 + n + 1 - 16 = n + 1 by omega, show 16 + n - 16 = n by omega, show 16 + n - 15 = n + 1 by omega, show 16 + n - 7 = n + 9 by omega, show 16 + n - 2 = n + 14 by omega]
  rfl
def schedZ (bs : List Int) (t : Nat) : List Int := schedTo bs t ++ List.replicate (64 - t) 0
theorem schedZ_length (bs : List Int) (t : Nat) (h : t ≤ 64) : (schedZ bs t).length = 64 := by simp [schedZ, schedTo_length]; omega
theorem schedZ_get (bs : List Int) (t j : Nat) (h : j < t) : (schedZ bs t).getD j 0 = (schedTo bs t)[j]?.getD 0 := by
  simp only [schedZ, List.getD_eq_getElem?_getD]
  rw [List.getElem?_append_left (by rw [schedTo_length]; omega)]
theorem schedZ_set (bs : List Int) (t : Nat) (h : t < 64) (v : Int) (hn : schedTo bs (t + 1) = schedTo bs t ++ [v]) : (schedZ bs t).set t v = schedZ bs (t + 1) := by
  have := Sha.set_zeros (schedTo bs t) (64 - (t + 1)) v
  rw [schedTo_length, show 64 - (t + 1) + 1 = 64 - t by omega] at this
  rw [schedZ, this, schedZ, hn]

theorem Blk.to {w : World} {b b' : Nat} {t : TypeId} {cs cs' : List Value} (h : Blk w b t cs) (e : b = b') (e2 : cs = cs') : Blk w b' t cs' := by subst e; subst e2; exact h
theorem step_list (s : Sha.St) (k w : Int) : (Sha.step s k w).list = [(s.h + Sha.bsig1 s.e + Sha.cho s.e s.f s.g + k + w + (Sha.bsig0 s.a + Sha.maj s.a s.b s.c)) % 4294967296, s.a, s.b, s.c, (s.d + (s.h + Sha.bsig1 s.e + Sha.cho s.e s.f s.g + k + w)) % 4294967296, s.e, s.f, s.g] := by
  unfold Sha.step Sha.St.list Sha.t1 Sha.t2
  simp only [Int.emod_add_emod, Int.add_emod_emod]
def outTo (st l : List Int) : Nat → List Int
  | 0 => List.replicate 8 0
  | j + 1 => (outTo st l j).set j ((st.getD j 0 + l.getD j 0) % 4294967296)
theorem outTo_length (st l : List Int) (j : Nat) : (outTo st l j).length = 8 := by
  induction j with
  | zero => simp [outTo]
  | succ j ih => simp [outTo, ih]
theorem outTo_8 (s0 s1 s2 s3 s4 s5 s6 s7 : Int) (s : Sha.St) : outTo [s0, s1, s2, s3, s4, s5, s6, s7] s.list 8 = Sha.addTo [s0, s1, s2, s3, s4, s5, s6, s7] s.list 8 := rfl
/-- What lies in memory while a block is taken. -/
structure Tk (st bs : List Int) (w wr : World) : Prop where
  b0 : Blk wr w.heap.size 66 (ints .u32 st)
  b1 : Blk wr (w.heap.size + 1) 36 (ints .u8 bs)
  b2 : Blk wr (w.heap.size + 1 + 1) 66 (ints .u32 (List.replicate 8 0))
  bel : Below w.heap.size w wr
theorem Tk.upd {st bs : List Int} {w wr wr' : World} (h : Tk st bs w wr) {b : Nat} (hu : Upd b wr wr') (hb : w.heap.size + 1 + 1 < b) : Tk st bs w wr' :=
  ⟨hu.blk h.b0 (by omega), hu.blk h.b1 (by omega), hu.blk h.b2 (by omega), hu.below h.bel (by omega) h.bel.size⟩

set_option maxHeartbeats 1000000 in
theorem taken_lit (s0 s1 s2 s3 s4 s5 s6 s7 : Int) (bs : List Int) (hbs : bs.length = 64) (g cap : Nat) (w : World) (hg : g < w.heap.size) (hk : ∀ i, i < 64 → w.cell? ⟨g, i, none⟩ = some (.int .u32 (Sha.K[i]?.getD 0))) :
    Calls Tryd.prog 44 #[.agg (ints .u32 [s0, s1, s2, s3, s4, s5, s6, s7]).toArray, .agg (ints .u8 bs).toArray, .slice (some ⟨g, 0, none⟩) 64 cap] w fun e w' => e = .returned (.agg (ints .u32 (Sha.compress [s0, s1, s2, s3, s4, s5, s6, s7] bs)).toArray) ∧ Below w.heap.size w w' := by
  obtain ⟨st, hst⟩ : ∃ st, st = [s0, s1, s2, s3, s4, s5, s6, s7] := ⟨_, rfl⟩
  have S0 : Hid (Sha.St.of st = ⟨s0, s1, s2, s3, s4, s5, s6, s7⟩) := by subst hst; rfl
  have hlen : st.length = 8 := by subst hst; rfl
  rw [← hst]
  have HST := Lib.hid hst
  have HLEN := Lib.hid hlen
  have HBS := Lib.hid hbs
  have HK := Lib.hid hk
  have HG := Lib.hid hg
  clear hst hlen hbs hk hg
  have HT0 : Hid (∀ c3, c3 = (ints .u32 (List.replicate 8 0)).toArray → Tk st bs w (((w.alloc (.cells (ints .u32 st).toArray 66)).alloc (.cells (ints .u8 bs).toArray 36)).alloc (.cells c3 66))) := fun c3 hc3 =>
    ⟨((Blk.new _ _ _).alloc _).alloc _, (Blk.new2 _ _ _ _ _ (by simp) rfl).alloc _, Blk.new2 _ _ _ _ _ (by simp) hc3, (((Below.refl _ _).alloc (Nat.le_refl _) _).alloc (by simp) _).alloc (by simp; omega) _⟩
  go_enter Tryd.func44, Tryd.ntmps44
  go_wp2_with (refine wpList_make_blk _ rfl _ _ 63 rfl 65 (.int .u32 0) 4 Tryd.underlying63 infoU32 rfl _ _ _ _ 64 rfl rfl rfl rfl (by omega) (by omega) ?_)
  intro w1 hb hbel hsz
  have T1 := Lib.hid ((HT0.out _ (by kernel_rfl)).upd (b := w.heap.size + 1 + 1 + 1) (Upd.of_below hbel (by simp)) (by omega))
  have W1 : Hid (Blk w1 (w.heap.size + 1 + 1 + 1) 65 (ints .u32 (schedZ bs 0))) := hb.to (by simp) rfl
  clear hb hbel hsz HT0
  go_wp2
  go_loopw [8] (fun i wr => ∃ t : Nat, t ≤ 64 ∧ i = .int .i64 t ∧ Tk st bs w wr ∧ Blk wr (w.heap.size + 1 + 1 + 1) 65 (ints .u32 (schedZ bs t))) (fun i _ => 64 - (intOf i).toNat)
  case atStart => exact ⟨0, by omega, rfl, T1.out, W1.out⟩
  case round =>
    obtain ⟨t, ht, rfl, hT, hW⟩ := hrel
    clear T1 W1
    by_cases hlt : t < 16
    · -- A{
      have c0 := hT.b1.cell (ints_getD (k := .u8) (l := bs) (j := 4 * t) (by rw [HBS.out]; omega))
      have c1 := hT.b1.cell (ints_getD (k := .u8) (l := bs) (j := 4 * t + 1) (by rw [HBS.out]; omega))
      have c2 := hT.b1.cell (ints_getD (k := .u8) (l := bs) (j := 4 * t + 2) (by rw [HBS.out]; omega))
      have c3 := hT.b1.cell (ints_getD (k := .u8) (l := bs) (j := 4 * t + 3) (by rw [HBS.out]; omega))
      have d0 := hW.cell (ints_getD (k := .u32) (j := t) (by rw [schedZ_length _ _ (by omega)]; omega))
      have f0 := hW.free t
      have HT := Lib.hid hT
      have HW := Lib.hid hW
      clear hT hW
      have e0 : IntKind.i64.wrap (4 * (t : Int)) = 4 * (t : Int) := IntWalk.i64_in _ (by omega)
      have e1 : IntKind.i64.wrap (4 * (t : Int) + 1) = 4 * (t : Int) + 1 := IntWalk.i64_in _ (by omega)
      have e2 : IntKind.i64.wrap (4 * (t : Int) + 2) = 4 * (t : Int) + 2 := IntWalk.i64_in _ (by omega)
      have e3 : IntKind.i64.wrap (4 * (t : Int) + 3) = 4 * (t : Int) + 3 := IntWalk.i64_in _ (by omega)
      have p0 : 0 ≤ 4 * (t : Int) := by omega
      have p1 : 0 ≤ 4 * (t : Int) + 1 := by omega
      have p2 : 0 ≤ 4 * (t : Int) + 2 := by omega
      have p3 : 0 ≤ 4 * (t : Int) + 3 := by omega
      have q0 : 4 * (t : Int) < 64 := by omega
      have q1 : 4 * (t : Int) + 1 < 64 := by omega
      have q2 : 4 * (t : Int) + 2 < 64 := by omega
      have q3 : 4 * (t : Int) + 3 < 64 := by omega
      have t0 : (4 * (t : Int)).toNat = 4 * t := by omega
      have t1 : (4 * (t : Int) + 1).toNat = 4 * t + 1 := by omega
      have t2 : (4 * (t : Int) + 2).toNat = 4 * t + 2 := by omega
      have t3 : (4 * (t : Int) + 3).toNat = 4 * t + 3 := by omega
      have q16 : (t : Int) < 16 := by omega
      have qk : (t : Int) < 64 := by omega
      go_wp2
      go_still_tail 32, (by kernel_rfl)
      clear e0 e1 e2 e3 t0 t1 t2 t3 c0 c1 c2 c3
      go_wp2
      go_roundw
      case rel =>
        refine ⟨t + 1, by omega, by go_num, ?_, ?_⟩
        · exact HT.out.upd (b := w.heap.size + 1 + 1 + 1) ((Upd.refl _ _).setCell t _).drew (by omega)
        · have hs := (HW.out.set t (.int .u32 (Sha.wordAt bs t))).drew
          rw [ints_set, schedZ_set bs t (by omega) _ (schedTo_low bs t hlt)] at hs
          exact hs
      case measure => simp [intOf]; omega
      -- }A
    · by_cases hlt2 : t < 64
      · -- A{
        have hzl := schedZ_length bs t (by omega)
        have c0 := hW.cell (ints_getD (k := .u32) (j := t - 16) (by omega))
        have c1 := hW.cell (ints_getD (k := .u32) (j := t - 15) (by omega))
        have c2 := hW.cell (ints_getD (k := .u32) (j := t - 7) (by omega))
        have c3 := hW.cell (ints_getD (k := .u32) (j := t - 2) (by omega))
        have d0 := hW.cell (ints_getD (k := .u32) (j := t) (by omega))
        rw [schedZ_get _ _ _ (by omega)] at c0 c1 c2 c3
        have f0 := hW.free t
        have HT := Lib.hid hT
        have HW := Lib.hid hW
        have HN := Lib.hid (schedTo_high bs t (by omega))
        clear hT hW hzl
        generalize (schedTo bs t)[t - 16]?.getD 0 = x16 at *
        generalize (schedTo bs t)[t - 15]?.getD 0 = x15 at *
        generalize (schedTo bs t)[t - 7]?.getD 0 = x7 at *
        generalize (schedTo bs t)[t - 2]?.getD 0 = x2 at *
        have e0 : IntKind.i64.wrap ((t : Int) - 16) = (t : Int) - 16 := IntWalk.i64_in _ (by omega)
        have e2 : IntKind.i64.wrap ((t : Int) - 7) = (t : Int) - 7 := IntWalk.i64_in _ (by omega)
        have p0 : 0 ≤ (t : Int) - 16 := by omega
        have p1 : 0 ≤ (t : Int) - 15 := by omega
        have p2 : 0 ≤ (t : Int) - 7 := by omega
        have p3 : 0 ≤ (t : Int) - 2 := by omega
        have p0' : 16 ≤ (t : Int) := by omega
        have p1' : 15 ≤ (t : Int) := by omega
        have p2' : 7 ≤ (t : Int) := by omega
        have p3' : 2 ≤ (t : Int) := by omega
        have q0 : (t : Int) - 16 < 64 := by omega
        have q1 : (t : Int) - 15 < 64 := by omega
        have q2 : (t : Int) - 7 < 64 := by omega
        have q3 : (t : Int) - 2 < 64 := by omega
        have q4 : (t : Int) < 64 := by omega
        have q5 : ¬ (t : Int) < 16 := by omega
        have t0 : ((t : Int) - 16).toNat = t - 16 := by omega
        have t1 : ((t : Int) - 15).toNat = t - 15 := by omega
        have t2 : ((t : Int) - 7).toNat = t - 7 := by omega
        have t3 : ((t : Int) - 2).toNat = t - 2 := by omega
        go_wp2_with fail
        refine (turn7 _ _).mono ?_
        rintro e w' ⟨rfl, rfl⟩
        go_wp2_with fail
        refine (turn18 _ _).mono ?_
        rintro e w' ⟨rfl, rfl⟩
        go_wp2_with fail
        refine (turn17 _ _).mono ?_
        rintro e w' ⟨rfl, rfl⟩
        go_wp2_with fail
        refine (turn19 _ _).mono ?_
        rintro e w' ⟨rfl, rfl⟩
        go_wp2
        go_still_tail 18, (by kernel_rfl)
        clear e0 e2 t0 t1 t2 t3 c0 c1 c2 c3
        go_wp2
        go_roundw
        case rel =>
          refine ⟨t + 1, by omega, by go_num, ?_, ?_⟩
          · exact HT.out.upd (b := w.heap.size + 1 + 1 + 1) ((Upd.refl _ _).setCell t _).drew (by omega)
          · have hs := (HW.out.set t (.int .u32 (Sha.nextWord x16 x15 x7 x2))).drew
            rw [ints_set, schedZ_set bs t (by omega) _ HN.out] at hs
            exact hs
        case measure => simp [intOf]; omega
        -- }A
      · have HT := Lib.hid hT
        have HW : Hid (Blk wr (w.heap.size + 1 + 1 + 1) 65 (ints .u32 (Sha.sched bs 48))) := by
          have e : t = 64 := by omega
          subst e
          have e2 : schedZ bs 64 = Sha.sched bs 48 := by
            rw [schedZ, schedTo_16 _ _ (by omega)]; simp
          rw [e2] at hW
          exact hW
        have q1 : ¬ ((t : Int) < 64) := by omega
        have q2 : decide ((t : Int) < 64) = false := by simp; omega
        have HI : Hid ((Tryd.prog.info? 66).map (·.size) = some (ints .u32 st).length) := by unfold Hid; rw [ints_length, HLEN.out]; exact infoState
        have HI' : Hid ((Tryd.prog.info? 66).map (·.size) = some (ints .u32 st).toArray.size) := by unfold Hid; rw [List.size_toArray, ints_length, HLEN.out]; exact infoState
        have HL8 : Hid ((ints .u32 st).length = (ints .u32 (List.replicate 8 0)).length) := by unfold Hid; rw [ints_length, HLEN.out, ints_length, List.length_replicate]
        have HSZ := Lib.hid HW.out.lt
        clear hT hW
        go_wp2_with (first
            | (refine wpList_load_row rfl 66 _ rfl w.heap.size rfl 66 (ints .u32 st).toArray (0, 0) _ HT.out.b0 Tryd.underlying66 rfl HI'.out ?_)
            | (refine wpList_store_whole rfl 66 _ _ rfl wr.heap.size (ints .u32 st) rfl rfl 66 (ints .u32 (List.replicate 8 0)) (Blk.new2 _ _ _ _ _ rfl (by kernel_rfl)) HL8.out HI.out (ints_oneCell _ _) ?_))
        intro w2 hw2 hup _
        obtain ⟨V, hV⟩ : ∃ V, V = wr.heap.size := ⟨_, rfl⟩
        rw [← hV] at hw2 hup ⊢
        have HV : Hid (w.heap.size + 1 + 1 + 1 < V) := by have := HSZ.out; unfold Hid; omega
        have T2 := Lib.hid (HT.out.upd (((Upd.refl V _).alloc _).trans hup) (by have := HV.out; omega))
        have W2 := Lib.hid (((Upd.refl V _).alloc _).trans hup |>.blk HW.out (by have := HV.out; omega))
        have V2 : Hid (Blk w2 V 66 (ints .u32 (Sha.steps st bs 0).list)) := by
          have e : (Sha.steps st bs 0).list = st := by rw [show Sha.steps st bs 0 = Sha.St.of st from rfl, S0.out, HST.out]; rfl
          unfold Hid; rw [e]; exact hw2
        clear hw2 hup HT HW hV HSZ hlt hlt2 q1 q2
        refine wpList_nil ?_
        go_wp2
        go_loopw [14] (fun i wr => ∃ k : Nat, k ≤ 64 ∧ i = .int .i64 k ∧ Tk st bs w wr ∧ Blk wr (w.heap.size + 1 + 1 + 1) 65 (ints .u32 (Sha.sched bs 48)) ∧ Blk wr V 66 (ints .u32 (Sha.steps st bs k).list)) (fun i _ => 64 - (intOf i).toNat)
        case atStart => exact ⟨0, by omega, rfl, T2.out, W2.out, V2.out⟩
        case round =>
          obtain ⟨k, hk, rfl, hT, hW, hV⟩ := hrel
          clear T2 W2 V2
          by_cases hlt : k < 64
          · -- A{
            have cW := hW.cell (ints_getD (k := .u32) (j := k) (by rw [Sha.sched_length]; omega))
            have cK : wr.cell? ⟨g, k, none⟩ = _ := (hT.bel.cell (p := ⟨g, k, none⟩) HG.out).trans (HK.out k hlt)
            have HT := Lib.hid hT
            have HW := Lib.hid hW
            have hs : Hid (Sha.steps st bs (k + 1) = Sha.step (Sha.steps st bs k) (Sha.K[k]?.getD 0) ((Sha.sched bs 48)[k]?.getD 0)) := rfl
            have HVb := Lib.hid hV
            clear hT hW hV
            generalize Sha.steps st bs k = s at *
            generalize Sha.K[k]?.getD 0 = kk at *
            rw [List.getD_eq_getElem?_getD] at cW
            generalize (Sha.sched bs 48)[k]?.getD 0 = ww at *
            have c0 : wr.cell? ⟨V, 0, none⟩ = some (.int .u32 s.a) := HVb.out.cell rfl
            have c1 : wr.cell? ⟨V, 1, none⟩ = some (.int .u32 s.b) := HVb.out.cell rfl
            have c2 : wr.cell? ⟨V, 2, none⟩ = some (.int .u32 s.c) := HVb.out.cell rfl
            have c3 : wr.cell? ⟨V, 3, none⟩ = some (.int .u32 s.d) := HVb.out.cell rfl
            have c4 : wr.cell? ⟨V, 4, none⟩ = some (.int .u32 s.e) := HVb.out.cell rfl
            have c5 : wr.cell? ⟨V, 5, none⟩ = some (.int .u32 s.f) := HVb.out.cell rfl
            have c6 : wr.cell? ⟨V, 6, none⟩ = some (.int .u32 s.g) := HVb.out.cell rfl
            have c7 : wr.cell? ⟨V, 7, none⟩ = some (.int .u32 s.h) := HVb.out.cell rfl
            have q0 : (k : Int) < 64 := by omega
            go_wp2
            rw [Sha.cho_or, Sha.maj_or]
            go_quiet ((go_at_call 52; exact Calls.quiet_of_same (turn_any _ _ (by decide) (by decide) _)))
            go_wp2_with fail
            refine (turn2 _ _).mono ?_
            rintro e w' ⟨rfl, rfl⟩
            go_wp2_with fail
            refine (turn13 _ _).mono ?_
            rintro e w' ⟨rfl, rfl⟩
            go_wp2_with fail
            refine (turn22 _ _).mono ?_
            rintro e w' ⟨rfl, rfl⟩
            have VB : Hid (Blk (wr.drewN nq) V 66 (ints .u32 s.list)) := HVb.out
            have UB : Hid (Upd V wr (wr.drewN nq)) := Upd.of_below (below_drewN wr nq) (Nat.le_refl _)
            have f0 : wr.frozen? ⟨V, 0, none⟩ = false := HVb.out.free 0
            have f1 : wr.frozen? ⟨V, 1, none⟩ = false := HVb.out.free 1
            have f2 : wr.frozen? ⟨V, 2, none⟩ = false := HVb.out.free 2
            have f3 : wr.frozen? ⟨V, 3, none⟩ = false := HVb.out.free 3
            have f4 : wr.frozen? ⟨V, 4, none⟩ = false := HVb.out.free 4
            have f5 : wr.frozen? ⟨V, 5, none⟩ = false := HVb.out.free 5
            have f6 : wr.frozen? ⟨V, 6, none⟩ = false := HVb.out.free 6
            have f7 : wr.frozen? ⟨V, 7, none⟩ = false := HVb.out.free 7
            go_wp2
            clear f0 f1 f2 f3 f4 f5 f6 f7 c0 c1 c2 c3 c4 c5 c6 c7 cW cK
            go_roundw
            case rel =>
              refine ⟨k + 1, by omega, by go_num, ?_, ?_, ?_⟩
              · exact HT.out.upd ((((((((UB.out.setCell 0 _).setCell 1 _).setCell 2 _).setCell 3 _).setCell 4 _).setCell 5 _).setCell 6 _).setCell 7 _) (by have := HV.out; omega)
              · exact ((((((((UB.out.setCell 0 _).setCell 1 _).setCell 2 _).setCell 3 _).setCell 4 _).setCell 5 _).setCell 6 _).setCell 7 _).blk HW.out (by have := HV.out; omega)
              · rw [hs.out, step_list]
                exact (((((((VB.out.set 0 _).set 1 _).set 2 _).set 3 _).set 4 _).set 5 _).set 6 _).set 7 _
            case measure => simp [intOf]; omega
            -- }A
          · have HT := Lib.hid hT
            have HVb := Lib.hid hV
            have ek : Hid (k = 64) := by unfold Hid; omega
            have q1 : ¬ ((k : Int) < 64) := by omega
            have q2 : decide ((k : Int) < 64) = false := by simp; omega
            obtain ⟨s, hs⟩ : ∃ s, Hid (Sha.steps st bs k = s) := ⟨_, rfl⟩
            rw [hs.out] at HVb
            have hfin : Hid (Sha.compress st bs = outTo st s.list 8) := by
              have e := ek.out
              subst e
              unfold Hid Sha.compress
              rw [hs.out, HST.out, outTo_8]
            clear hT hW hV hs ek
            have T3 : Hid (Tk st bs w (wr.alloc (.cells (ints .u32 (List.replicate 8 0)).toArray 66))) := HT.out.upd (b := V) ((Upd.refl V _).alloc _) (by have := HV.out; omega)
            have V3 := Lib.hid (HVb.out.alloc (.cells (ints .u32 (List.replicate 8 0)).toArray 66))
            have O3 : Hid (Blk (wr.alloc (.cells (ints .u32 (List.replicate 8 0)).toArray 66)) wr.heap.size 66 (ints .u32 (outTo st s.list 0))) := Blk.new _ _ _
            have HVO := Lib.hid HVb.out.lt
            clear HT HVb
            go_wp2
            obtain ⟨O, hO⟩ : ∃ O, O = wr.heap.size := ⟨_, rfl⟩
            rw [← hO] at O3 HVO ⊢
            have HO := Lib.hid hO
            clear hO
            go_loopw [22] (fun i wr => ∃ j : Nat, j ≤ 8 ∧ i = .int .i64 j ∧ Tk st bs w wr ∧ Blk wr V 66 (ints .u32 s.list) ∧ Blk wr O 66 (ints .u32 (outTo st s.list j))) (fun i _ => 8 - (intOf i).toNat)
            case atStart => exact ⟨0, by omega, rfl, T3.out, V3.out, O3.out⟩
            case round =>
              obtain ⟨j, hj, rfl, hT, hV, hO⟩ := hrel
              clear T3 V3 O3 q1 q2 hlt
              by_cases hlt : j < 8
              · have c0 := hT.b0.cell (ints_getD (k := .u32) (j := j) (by rw [HLEN.out]; omega))
                have c1 := hV.cell (ints_getD (k := .u32) (j := j) (by show j < 8; omega))
                have c2 := hO.cell (ints_getD (k := .u32) (j := j) (by rw [outTo_length]; omega))
                have f2 := hO.free j
                have q0 : (j : Int) < 8 := by omega
                have HT := Lib.hid hT
                have HVb := Lib.hid hV
                have HOb := Lib.hid hO
                clear hT hV hO
                have hn : Hid (outTo st s.list (j + 1) = (outTo st s.list j).set j ((st.getD j 0 + s.list.getD j 0) % 4294967296)) := rfl
                go_wp2
                go_still_tail 9, (by kernel_rfl)
                clear c0 c1
                go_wp2
                go_roundw
                case rel =>
                  refine ⟨j + 1, by omega, by go_num, ?_, ?_, ?_⟩
                  · exact HT.out.upd (b := O) ((Upd.refl _ _).setCell j _).drew (by have := HVO.out; have := HV.out; omega)
                  · exact ((Upd.refl O _).setCell j _).drew.blk HVb.out (by have := HVO.out; omega)
                  · have h2 := (HOb.out.set j (.int .u32 ((st.getD j 0 + s.list.getD j 0) % 4294967296))).drew
                    rw [ints_set, ← hn.out] at h2
                    simpa using h2
                case measure => simp [intOf]; omega
              · have HT := Lib.hid hT
                have HOb : Hid (Blk wr O 66 (ints .u32 (Sha.compress st bs))) := by
                  have e : j = 8 := by omega
                  subst e
                  rw [← hfin.out] at hO; exact hO
                have hlc : (Sha.compress st bs).length = 8 := by rw [hfin.out, outTo_length]
                have HI8 : Hid ((Tryd.prog.info? 66).map (·.size) = some (ints .u32 (Sha.compress st bs)).length) := by unfold Hid; rw [ints_length, hlc]; exact infoState
                have HI8' : Hid ((Tryd.prog.info? 66).map (·.size) = some (ints .u32 (Sha.compress st bs)).toArray.size) := by unfold Hid; rw [List.size_toArray, ints_length, hlc]; exact infoState
                have HL9 : Hid ((ints .u32 (Sha.compress st bs)).length = (ints .u32 (List.replicate 8 0)).length) := by unfold Hid; rw [ints_length, hlc, ints_length, List.length_replicate]
                have q3 : ¬ ((j : Int) < 8) := by omega
                have q5 : decide ((j : Int) < 8) = false := by simp; omega
                clear hT hV hO hlc hfin
                obtain ⟨res, hres⟩ : ∃ r, Hid (Sha.compress st bs = r) := ⟨_, rfl⟩
                rw [hres.out] at HOb HI8 HI8' HL9
                go_wp2_with (first
                  | (refine wpList_load_row rfl 66 _ rfl O rfl 66 (ints .u32 res).toArray (0, 0) _ HOb.out Tryd.underlying66 rfl HI8'.out ?_)
                  | (refine wpList_store_whole rfl 66 _ _ rfl (w.heap.size + 1 + 1) (ints .u32 res) rfl rfl 66 (ints .u32 (List.replicate 8 0)) HT.out.b2 HL9.out HI8.out (ints_oneCell _ _) ?_))
                intro w3 hw3 hup _
                refine wpList_nil ?_
                go_wp2
                have hbl := hup.below HT.out.bel (by omega) HT.out.bel.size
                refine bodyPost_ret (v := .agg (ints .u32 res).toArray) ?_ rfl ⟨by rw [hres.out], hbl⟩
                refine results_cell_row (g := w.heap.size + 1 + 1) (t := 66) (cs := (ints .u32 res).toArray) (fr := (0, 0)) Tryd.results44 _ _ _ ?_ ?_ Tryd.underlying66 rfl HI8'.out
                · rfl
                · exact hw3
theorem taken_ref (st bs : List Int) (hst : st.length = 8) (hbs : bs.length = 64) (g cap : Nat) (w : World) (hg : g < w.heap.size) (hk : ∀ i, i < 64 → w.cell? ⟨g, i, none⟩ = some (.int .u32 (Sha.K[i]?.getD 0))) :
    Calls Tryd.prog 44 #[.agg (ints .u32 st).toArray, .agg (ints .u8 bs).toArray, .slice (some ⟨g, 0, none⟩) 64 cap] w fun e w' => e = .returned (.agg (ints .u32 (Sha.compress st bs)).toArray) ∧ Below w.heap.size w w' := by
  match st, hst with
  | [s0, s1, s2, s3, s4, s5, s6, s7], _ => exact taken_lit s0 s1 s2 s3 s4 s5 s6 s7 bs hbs g cap w hg hk
end Go.Proofs.YtaeghgnhpgkcdaaDoor
