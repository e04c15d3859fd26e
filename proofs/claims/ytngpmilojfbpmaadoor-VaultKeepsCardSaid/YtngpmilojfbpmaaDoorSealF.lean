/- Package seal: Pack. -/
import Derived.Test.YtngpmilojfbpmaaDoorSealE
namespace Go.Proofs.YtngpmilojfbpmaaDoor
open Go Go.RowKit
set_option maxRecDepth 100000

set_option maxHeartbeats 1000000 in
theorem pack_no (gen num : Int) (a : Option Addr) (n c : Nat) (w : World) (hno : ¬ okPack gen num n) :
    Calls Tryd.prog 68 #[.int .i64 gen, .int .i64 num, .slice a n c] w fun e w' => e = .returned (.tuple #[.slice none 0 0, .bool false]) ∧ w = w' := by
  by_cases hn : 2000 < n
  · have hz : needI (n : Int) = 0 := needI_no _ (.inr (by omega))
    have HZ := Lib.hid hz
    clear hz hno
    go_enter Tryd.func68, Tryd.ntmps68
    go_wp2_with fail
    refine (need_walk _ _).mono ?_
    rintro e w' ⟨rfl, rfl⟩
    rw [HZ.out]
    go_wp2
    go_ret2
    exact ⟨rfl, rfl⟩
  · obtain ⟨k, hk⟩ : ∃ k, Hid (needN n = k) := ⟨_, rfl⟩
    have hz : needI (n : Int) = (k : Int) := (needI_nat n (by omega)).trans (by rw [hk.out])
    have HZ := Lib.hid hz
    have k1 : 1 ≤ k := by have := needN_pos n; rw [hk.out] at this; exact this
    have k45 : k ≤ 45 := by have := needN_le n (by omega); rw [hk.out] at this; exact this
    have hor : gen < 1 ∨ 4294967295 < gen ∨ num < 0 ∨ 4294967295 - (k : Int) + 1 < num := by
      unfold okPack at hno
      rw [hk.out] at hno
      omega
    have q0 : ((k : Int) == 0) = false := by simpa using (show ¬ k = 0 by omega)
    clear hno hz hk
    go_enter Tryd.func68, Tryd.ntmps68
    go_wp2_with fail
    refine (need_walk _ _).mono ?_
    rintro e w' ⟨rfl, rfl⟩
    rw [HZ.out]
    by_cases h1 : gen < 1
    · go_wp2
      go_ret2
      exact ⟨rfl, rfl⟩
    · by_cases h2 : 4294967295 < gen
      · go_wp2
        go_ret2
        exact ⟨rfl, rfl⟩
      · by_cases h3 : num < 0
        · go_wp2
          go_ret2
          exact ⟨rfl, rfl⟩
        · have h4 : 4294967295 - (k : Int) + 1 < num := by omega
          clear hor
          go_wp2
          go_ret2
          exact ⟨rfl, rfl⟩
/-- Where Pack stands. -/
structure PkAt (w wr : World) (B G g gen num k : Nat) (all : List Int) (i : Nat) : Prop where
  blk : Blk wr G 91 (ints .u8 (packK gen num all i ++ zeros (64 * (k - i))))
  rng : wr.rangeAt g 0 (ints .u8 all)
  lt : g < wr.heap.size
  ne : g ≠ G
  bel : Below B w wr
  low : B ≤ G
  sz : B ≤ wr.heap.size
section
variable {w wr wr' : World} {B G g gen num k : Nat} {all : List Int} {i : Nat}
theorem PkAt.below (h : PkAt w wr B G g gen num k all i) (hb : Below wr.heap.size wr wr') : PkAt w wr' B G g gen num k all i :=
  ⟨h.blk.below hb h.blk.lt, fun j v hv => by rw [hb.cell (p := ⟨g, 0 + j, none⟩) h.lt]; exact h.rng j v hv, Nat.lt_of_lt_of_le h.lt hb.size, h.ne, h.bel.trans (hb.mono h.sz), h.low, Nat.le_trans h.sz hb.size⟩
theorem packK_store {s : List Int} (hs : s.length = 64) (hi : i < k) : splice (ints .u8 (packK gen num all i ++ zeros (64 * (k - i)))) (64 * i) (ints .u8 s) = ints .u8 (packK gen num all i ++ (s ++ zeros (64 * (k - (i + 1))))) := by
  rw [splice_at _ _ _ _ (packK_length gen num all i), hs, zeros_drop, show 64 * (k - i) - 64 = 64 * (k - (i + 1)) by omega]
theorem PkAt.store (h : PkAt w wr B G g gen num k all i) (hi : i < k) : PkAt w (wr.setCells G (64 * i) (ints .u8 (sectorP (markP gen (num + i)) (cutP all i)))) B G g gen num k all (i + 1) := by
  have hsl := sectorP_length (markP_length gen (num + i)) (cutP_le all i)
  have hb := h.blk.setCells (ints .u8 (sectorP (markP gen (num + i)) (cutP all i))) (64 * i) (by rw [ints_length, hsl, ints_length, List.length_append, packK_length, zeros_length]; omega)
  rw [packK_store hsl hi, ← List.append_assoc, ← packK] at hb
  refine ⟨hb, fun j v hv => ?_, by rw [size_setCells]; exact h.lt, h.ne, below_setCells _ h.bel _ h.low, h.low, by rw [size_setCells]; exact h.sz⟩
  rw [Upd.cell ((Upd.refl G wr).setCells (ints .u8 (sectorP (markP gen (num + i)) (cutP all i))) (64 * i)) (p := ⟨g, 0 + j, none⟩) h.lt h.ne]
  exact h.rng j v hv
end
theorem bytesElem : Tryd.prog.underlying 22 = some (.slice (Tryd.prog.elem 22)) := by kernel_rfl
theorem run_bs_head (g o n c h : Nat) (h1 : h ≤ c) (w : World) : (Instr.sliceAt 22 (.slice (some ⟨g, o, none⟩) n c) none (some (.int .i64 (h : Int))) none).run Tryd.prog w = .ok (.slice (some ⟨g, o, none⟩) h c) w := by
  have hz : (sizeOf (Tryd.prog.elem 22)).run Tryd.prog w = .ok 1 w := by kernel_rfl
  rw [run_sliceAt_slice w 22 _ _ _ _ bytesElem, run_slice_h w 22 _ n c bytesElem .i64 (h : Int) (by omega) (by omega), hz]
  simp only [Result.andThen_ok, sliced, Int.toNat_natCast, Nat.sub_zero, Option.map_some, Nat.zero_mul, Addr.add_mid, Nat.add_zero]
  split <;> rfl
theorem run_bs_tail (g o n c l : Nat) (h1 : l ≤ n) (hc : l < c) (w : World) : (Instr.sliceAt 22 (.slice (some ⟨g, o, none⟩) n c) (some (.int .i64 (l : Int))) none none).run Tryd.prog w = .ok (.slice (some ⟨g, o + l, none⟩) (n - l) (c - l)) w := by
  have hz : (sizeOf (Tryd.prog.elem 22)).run Tryd.prog w = .ok 1 w := by kernel_rfl
  rw [run_sliceAt_slice w 22 _ _ _ _ bytesElem, run_slice_l w 22 _ n c bytesElem .i64 (l : Int) (by omega) (by omega), hz]
  simp only [Result.andThen_ok, sliced, Int.toNat_natCast, Option.map_some, Nat.mul_one, Addr.add_mid]
  rw [if_neg (by omega)]
theorem run_bs_rest (g o n c l : Nat) (h1 : l ≤ n) (w : World) : ∃ v, (Instr.sliceAt 22 (.slice (some ⟨g, o, none⟩) n c) (some (.int .i64 (l : Int))) none none).run Tryd.prog w = .ok v w := by
  have hz : (sizeOf (Tryd.prog.elem 22)).run Tryd.prog w = .ok 1 w := by kernel_rfl
  rw [run_sliceAt_slice w 22 _ _ _ _ bytesElem, run_slice_l w 22 _ n c bytesElem .i64 (l : Int) (by omega) (by omega), hz]
  exact ⟨_, rfl⟩
theorem cutP_length (all : List Int) (i : Nat) : (cutP all i).length = min 46 (all.length - 46 * i) := by unfold cutP; rw [List.length_take, List.length_drop]
theorem cut_range {w : World} {g : Nat} {all : List Int} (h : w.rangeAt g 0 (ints .u8 all)) (i : Nat) : w.rangeAt g (46 * i) (ints .u8 (cutP all i)) := fun j v hv => by
  have h1 := h (46 * i + j) v (by
    unfold cutP at hv
    rw [← ints_take, ← ints_drop, List.getElem?_take] at hv
    split at hv
    · rw [List.getElem?_drop] at hv; exact hv
    · cases hv)
  rw [Nat.zero_add] at h1
  exact h1
def PackPost (l : List Int) (n : Nat) (w : World) (e : Ending) (w' : World) : Prop := ∃ G, e = .returned (.tuple #[.slice (some ⟨G, 0, none⟩) n n, .bool true]) ∧ w.heap.size ≤ G ∧ Blk w' G 91 (ints .u8 l) ∧ Below w.heap.size w w'
set_option maxHeartbeats 4000000 in
theorem pack_ok (gen num : Nat) (u : Value) (rec : List Int) (w : World) (hu : BytesIn w u rec) (hnil : NilOk u) (hok : okPack (gen : Int) (num : Int) rec.length) (hK : KW w) :
    Calls Tryd.prog 68 #[.int .i64 (gen : Int), .int .i64 (num : Int), u] w (PackPost (packF gen num rec) (needN rec.length) w) := by
  obtain ⟨h1, h2, h3, -, h5⟩ := hok
  obtain ⟨ua, uc, rfl, -⟩ := id hu
  have HU := Lib.hid hu
  have HNI := Lib.hid hnil
  have HK := Lib.hid hK
  obtain ⟨n, hn⟩ : ∃ n, Hid (rec.length = n) := ⟨_, rfl⟩
  rw [hn.out] at HU HNI h1 h5 ⊢
  obtain ⟨k, hk⟩ : ∃ k, Hid (needN n = k) := ⟨_, rfl⟩
  rw [hk.out] at h5 ⊢
  have hz : needI (n : Int) = (k : Int) := (needI_nat n (by omega)).trans (by rw [hk.out])
  have HZ := Lib.hid hz
  have k1 : 1 ≤ k := by have := needN_pos n; rw [hk.out] at this; exact this
  have k45 : k ≤ 45 := by have := needN_le n (by omega); rw [hk.out] at this; exact this
  have q0 : ((k : Int) == 0) = false := by simpa using (show ¬ k = 0 by omega)
  have q1 : ¬ ((gen : Int) < 1) := by omega
  have q2 : ¬ (4294967295 < (gen : Int)) := by omega
  have q3 : ¬ ((num : Int) < 0) := by omega
  have q4 : ¬ (4294967295 - (k : Int) + 1 < (num : Int)) := by omega
  have HKN : Hid (46 * k < n + 34 + 46 ∧ n + 34 ≤ 46 * k) := by unfold Hid; rw [← hk.out]; unfold needN; omega
  unfold packF
  rw [hn.out, hk.out]
  obtain ⟨all, hall⟩ : ∃ all, Hid (recB rec = all) := ⟨_, rfl⟩
  have HAL : Hid (all.length = n + 34) := by unfold Hid; rw [← hall.out, recB_length, hn.out]
  rw [hall.out]
  obtain ⟨B, hB⟩ : ∃ B, Hid (w.heap.size = B) := ⟨_, rfl⟩
  unfold PackPost
  rw [hB.out]
  clear hu hnil hK hz
  go_enter Tryd.func68, Tryd.ntmps68
  go_wp2_with fail
  refine (need_walk _ _).mono ?_
  rintro e w' ⟨rfl, rfl⟩
  rw [HZ.out]
  go_upto_region 4 with (fail)
  refine lin_begin (opsOf Tryd.f68 4) (by kernel_rfl) ?_
  refine lin_now 0 (.int .i64 (k : Int)) (some 37) (by kernel_rfl) (by kernel_rfl) (by kernel_rfl) ?_
  refine lin_makeblk 1 k B .i64 .i64 (some 38) (by kernel_rfl) (by kernel_rfl) (by kernel_rfl) (by omega) hB ?_
  intro w1 b1 be1 hs1
  refine lin_now 2 (.slice (some ⟨B, 0, none⟩) k k) (some 9) (by kernel_rfl) (by kernel_rfl) (by kernel_rfl) ?_
  refine lin_done 3 (by kernel_rfl) ?_
  have X1 := Lib.hid b1
  have BE1 := Lib.hid be1
  have HU1 : Hid (BytesIn w1 (.slice ua n uc) rec) := HU.out.below be1 (Nat.le_of_eq hB.out)
  have HK1 : Hid (KW w1) := HK.out.below be1 (by rw [← hB.out]; exact HK.out.lt)
  clear b1 be1 HU HK
  generalize hact : Act.put _ (some 9) _ = act
  simp only [Act.put, List.setIfInBounds_toArray, List.set_cons_succ, List.set_cons_zero] at hact
  subst hact
  go_wp2_with fail
  refine (bytesof_walk _ rec _ HU1.out HNI.out (by rw [hn.out]; omega) HK1.out).mono ?_
  rintro e w2 ⟨v2, rfl, ho2, hb2⟩
  rw [hall.out] at ho2
  obtain ⟨g, c2, rfl, hg2, hr2, hlt2, hc2⟩ : ∃ g c, v2 = .slice (some ⟨g, 0, none⟩) (n + 34) c ∧ B + 1 ≤ g ∧ w2.rangeAt g 0 (ints .u8 all) ∧ g < w2.heap.size ∧ n + 34 ≤ c := by
    obtain ⟨va, vc, e, hc, hp⟩ := owns_bytes ho2
    obtain ⟨pb, po, e2, h6, h7⟩ := hp (by rw [HAL.out]; omega)
    subst e2
    have h8 := owns_row ho2 pb (by rw [e]; rfl)
    obtain ⟨_, h9⟩ := ho2
    rcases h9 with ⟨e3, _⟩ | ⟨g3, cap3, cur3, e3, _⟩
    · rw [e] at e3; cases e3
    · rw [e] at e3
      obtain ⟨e4, -, -⟩ := Value.slice.inj e3
      obtain ⟨rfl, rfl⟩ : pb = g3 ∧ po = 0 := by simpa using e4
      exact ⟨pb, vc, by rw [e, HAL.out], by rw [hs1.out] at h8; exact h8, h7, h6, by rw [HAL.out] at hc; exact hc⟩
  have P0 : Hid (PkAt w w2 B B g gen num k all 0) := ⟨by rw [packK, List.nil_append, Nat.sub_zero]; exact X1.out.below hb2 X1.out.lt, hr2, hlt2, by omega, BE1.out.trans (hb2.mono (by rw [hs1.out]; omega)), Nat.le_refl _, by have := hb2.size; have := hs1.out; omega⟩
  have HC2 := Lib.hid hc2
  clear ho2 hb2 hg2 hr2 hlt2 hc2 X1 BE1 hs1 HU1 HK1
  go_wp2
  go_loopw [43, 10] (fun iv r wr => ∃ i : Nat, i ≤ k ∧ iv = .int .i64 (i : Int) ∧ (i < k → r = .slice (some ⟨g, 46 * i, none⟩) (n + 34 - 46 * i) (c2 - 46 * i)) ∧ PkAt w wr B B g gen num k all i) (fun iv _ _ => k - (intOf iv).toNat)
  case atStart => exact ⟨0, Nat.zero_le _, rfl, fun _ => rfl, P0.out⟩
  case round =>
    obtain ⟨i, hi, rfl, hr, hpk⟩ := hrel
    have PK := Lib.hid hpk
    clear hpk P0
    by_cases hlt : i < k
    · obtain rfl := hr hlt
      have r1 : (i : Int) < (k : Int) := by omega
      obtain ⟨sz, hsz⟩ : ∃ sz, Hid ((cutP all i).length = sz) := ⟨_, rfl⟩
      have SZ : Hid (sz = min 46 (n + 34 - 46 * i)) := by unfold Hid; rw [← hsz.out, cutP_length, HAL.out]
      have sz1 : 1 ≤ sz := by have := SZ.out; have := HKN.out; omega
      have sz46 : sz ≤ 46 := by have := SZ.out; omega
      have szr : sz ≤ n + 34 - 46 * i := by have := SZ.out; omega
      have HMN : Hid ((if (46 : Int) < ((n + 34 - 46 * i : Nat) : Int) then (46 : Int) else ((n + 34 - 46 * i : Nat) : Int)) = (sz : Int)) := by unfold Hid; have := SZ.out; split <;> omega
      have HSC : Hid (sz ≤ c2 - 46 * i) := by unfold Hid; have := HC2.out; omega
      have IS : Hid ((Tryd.prog.info? 91).map (·.size) = some (ints .u8 (sectorP (markP gen (num + i)) (cutP all i))).length) := infoBlk _ (sectorP_length (markP_length _ _) (cutP_le _ _))
      obtain ⟨rn, hrn⟩ : ∃ rn, Hid (n + 34 - 46 * i = rn) := ⟨_, rfl⟩
      obtain ⟨rc, hrc⟩ : ∃ rc, Hid (c2 - 46 * i = rc) := ⟨_, rfl⟩
      rw [hrn.out] at HMN szr ⊢
      rw [hrc.out] at HSC ⊢
      clear hr
      go_upto_region 9 with (fail)
      refine lin_begin (opsOf Tryd.f68 9) (by kernel_rfl) ?_
      refine lin_now 0 (.slice (some ⟨g, 46 * i, none⟩) rn rc) (some 46) (by kernel_rfl) (by kernel_rfl) (by kernel_rfl) ?_
      refine lin_now 1 (.int .i64 (rn : Int)) (some 47) (by kernel_rfl) (by kernel_rfl) (by kernel_rfl) ?_
      refine lin_now 2 (.int .i64 (if (46 : Int) < (rn : Int) then (46 : Int) else (rn : Int))) (some 48) (by kernel_rfl) (by kernel_rfl) (by kernel_rfl) ?_
      rw [HMN.out]
      refine lin_now 3 (.int .i64 (sz : Int)) (some 12) (by kernel_rfl) (by kernel_rfl) (by kernel_rfl) ?_
      refine lin_done 4 (by kernel_rfl) ?_
      generalize hact : Act.put _ (some 12) _ = act
      simp only [Act.put, List.setIfInBounds_toArray, List.set_cons_succ, List.set_cons_zero] at hact
      subst hact
      go_upto_region 10 with (fail)
      refine region_begin (opsOf Tryd.f68 10) (fun _ => True) (by kernel_rfl) (by kernel_rfl) 13 (by kernel_rfl) ?_
      intro Q' hQN hN
      refine reg_now 0 (.slice (some ⟨B, 0, none⟩) k k) (some 49) hQN trivial (by kernel_rfl) (by kernel_rfl) (fun w => by kernel_rfl) ?_
      refine reg_now 1 (.int .i64 (i : Int)) (some 50) hQN trivial (by kernel_rfl) (by kernel_rfl) (fun w => by kernel_rfl) ?_
      refine reg_now 2 (.int .i64 (gen : Int)) (some 51) hQN trivial (by kernel_rfl) (by kernel_rfl) (fun w => by kernel_rfl) ?_
      refine reg_now 3 (.int .i64 (num : Int)) (some 52) hQN trivial (by kernel_rfl) (by kernel_rfl) (fun w => by kernel_rfl) ?_
      refine reg_now 4 (.int .i64 (i : Int)) (some 53) hQN trivial (by kernel_rfl) (by kernel_rfl) (fun w => by kernel_rfl) ?_
      refine reg_now 5 (.int .i64 (IntKind.i64.wrap ((num : Int) + (i : Int)))) (some 54) hQN trivial (by kernel_rfl) (by kernel_rfl) (fun w => by kernel_rfl) ?_
      rw [show IntKind.i64.wrap ((num : Int) + (i : Int)) = ((num + i : Nat) : Int) from (IntWalk.i64_in _ (by omega)).trans (by omega)]
      refine reg_now 7 (.slice (some ⟨g, 46 * i, none⟩) rn rc) (some 56) hQN trivial (by kernel_rfl) (by kernel_rfl) (fun w => by kernel_rfl) ?_
      refine reg_now 8 (.int .i64 (sz : Int)) (some 57) hQN trivial (by kernel_rfl) (by kernel_rfl) (fun w => by kernel_rfl) ?_
      refine reg_now 9 (.slice (some ⟨g, 46 * i, none⟩) sz rc) (some 58) hQN trivial (by kernel_rfl) (by kernel_rfl) (fun w' => exec_of (Instr.sliceAt 22 (.slice (some ⟨g, 46 * i, none⟩) rn rc) none (some (.int .i64 (sz : Int))) none) _ (by kernel_rfl) (run_bs_head g (46 * i) rn rc sz HSC.out w')) ?_
      refine reg_call 6 90 #[.int .i64 (gen : Int), .int .i64 ((num + i : Nat) : Int)] (some 55) _ (by kernel_rfl) (by kernel_rfl) (by kernel_rfl) (markof_walk gen (num + i) (by omega) (by omega) _) ?_
      rintro e w3 ⟨rfl, hb3⟩
      refine ⟨_, rfl, trivial, ?_⟩
      have P3 : PkAt w w3 B B g gen num k all i := (PK.out.below (Below.refl _ _).drew).below hb3
      refine reg_call 10 89 #[.agg (ints .u8 (markP gen (num + i))).toArray, .slice (some ⟨g, 46 * i, none⟩) sz rc] (some 59) _ (by kernel_rfl) (by kernel_rfl) (by kernel_rfl) (sector_walk (markP gen (num + i)) (cutP all i) g (46 * i) sz rc (markP_length _ _) hsz.out sz46 _ (cut_range P3.rng i) P3.lt) ?_
      rintro e w4 ⟨rfl, hb4⟩
      refine ⟨_, rfl, trivial, ?_⟩
      have P4 : PkAt w w4 B B g gen num k all i := P3.below hb4
      refine reg_now 11 (.pointer (some ⟨B, 0 + 64 * i, none⟩)) (some 60) hQN trivial (by kernel_rfl) (by kernel_rfl) (fun w' => exec_indexAt 67 (.tmp 49) (.tmp 50) (by kernel_rfl) _ _ _ (by kernel_rfl) (by kernel_rfl) (run_at_block B 0 k k i hlt w')) ?_
      rw [Nat.zero_add]
      refine reg_store 12 (w4.setCells B (64 * i) (ints .u8 (sectorP (markP gen (num + i)) (cutP all i)))) (by kernel_rfl) (by kernel_rfl) (exec_store_mid 91 (.tmp 60) (.tmp 59) (by kernel_rfl) B (64 * i) (ints .u8 (sectorP (markP gen (num + i)) (cutP all i))) (by kernel_rfl) (by kernel_rfl) (P4.blk.there _ _ (by rw [ints_length, sectorP_length (markP_length _ _) (cutP_le _ _), ints_length, List.length_append, packK_length, zeros_length]; omega)) IS.out (ints_oneCell _ _)) trivial ?_
      refine reg_done (by kernel_rfl) (hN _ _ ?_)
      have P5 := Lib.hid (P4.store hlt)
      clear hQN hN hb3 hb4 P3 P4 PK IS
      generalize w4.setCells B (64 * i) (ints .u8 (sectorP (markP gen (num + i)) (cutP all i))) = W5 at *
      generalize hact : Act.put _ none undef = act
      simp only [Act.put, List.setIfInBounds_toArray, List.set_cons_succ, List.set_cons_zero] at hact
      subst hact
      obtain ⟨v6, hv6⟩ := run_bs_rest g (46 * i) rn rc sz szr W5
      have HV6 : Hid (i + 1 < k → v6 = .slice (some ⟨g, 46 * (i + 1), none⟩) (n + 34 - 46 * (i + 1)) (c2 - 46 * (i + 1))) := fun h => by
        have e46 : sz = 46 := by have := SZ.out; have := HKN.out; omega
        have h6 := run_bs_tail g (46 * i) rn rc sz szr (by have := HC2.out; have := hrc.out; have := HKN.out; omega) W5
        rw [hv6] at h6
        have e := (Result.ok.inj h6).1
        rw [e, ← hrn.out, ← hrc.out, show 46 * i + sz = 46 * (i + 1) by omega, show n + 34 - 46 * i - sz = n + 34 - 46 * (i + 1) by omega, show c2 - 46 * i - sz = c2 - 46 * (i + 1) by omega]
      have HV := Lib.hid hv6
      clear hv6
      go_upto_region 11 with (fail)
      refine lin_begin (opsOf Tryd.f68 11) (by kernel_rfl) ?_
      refine lin_now 0 (.slice (some ⟨g, 46 * i, none⟩) rn rc) (some 61) (by kernel_rfl) (by kernel_rfl) (by kernel_rfl) ?_
      refine lin_now 1 (.int .i64 (sz : Int)) (some 62) (by kernel_rfl) (by kernel_rfl) (by kernel_rfl) ?_
      refine lin_now 2 (v6) (some 63) (by kernel_rfl) (by kernel_rfl) (exec_of (Instr.sliceAt 22 (.slice (some ⟨g, 46 * i, none⟩) rn rc) (some (.int .i64 (sz : Int))) none none) _ (by kernel_rfl) HV.out) ?_
      refine lin_now 3 (v6) (some 10) (by kernel_rfl) (by kernel_rfl) (by kernel_rfl) ?_
      refine lin_done 4 (by kernel_rfl) ?_
      generalize hact : Act.put _ (some 10) _ = act
      simp only [Act.put, List.setIfInBounds_toArray, List.set_cons_succ, List.set_cons_zero] at hact
      subst hact
      go_wp2
      exact ⟨⟨i + 1, by omega, by go_num, HV6.out, P5.out⟩, by simp [intOf]; omega⟩
    · have r1 : ¬ (i : Int) < (k : Int) := by omega
      obtain rfl : i = k := by omega
      clear hr hi
      go_wp2
      go_ret2
      refine ⟨B, rfl, Nat.le_refl _, ?_, PK.out.bel⟩
      have h := PK.out.blk
      rw [Nat.sub_self, Nat.mul_zero, show zeros 0 = [] from rfl, List.append_nil] at h
      exact h
end Go.Proofs.YtngpmilojfbpmaaDoor
