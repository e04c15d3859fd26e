/- The reference's Unframe tells the parts of a frame, and of no other bytes. -/
import Derived.Test.YtmaobmeaanafcaaDoorTagUfm
namespace Go.Proofs.YtmaobmeaanafcaaDoor
open Go.RowKit
set_option maxRecDepth 100000

theorem rnumber_no (a : Option Addr) (len cap k : Nat) (h : len < k + 4) (hk : k ≤ 1000000000) (w : World) : Calls Tryd.prog 49 #[.slice a len cap, .int .i64 (k : Int)] w fun e w' => e = .returned (.int .i64 (-1)) ∧ w = w' := by
  have q1 : (len : Int) < (k : Int) + 4 := by omega
  go_enter Tryd.func49, Tryd.ntmps49
  go_wp2
  go_ret
  exact ⟨rfl, rfl⟩
theorem ret_i64 {a b : Int} (h : a = b) : Ending.returned (.int .i64 a) = .returned (.int .i64 b) := by rw [h]
theorem getD_drop (zs : List Int) (k j : Nat) : (zs.drop k).getD j 0 = zs.getD (k + j) 0 := by simp [List.getD_eq_getElem?_getD, List.getElem?_drop]
set_option maxHeartbeats 1000000 in
theorem rnumber_yes (pb po len cap k : Nat) (zs : List Int) (hl : zs.length = len) (hb : isBytes zs) (h4 : k + 4 ≤ len) (hbig : len ≤ 1000000) (w : World) (hr : w.rangeAt pb po (ints .u8 zs)) :
    Calls Tryd.prog 49 #[.slice (some ⟨pb, po, none⟩) len cap, .int .i64 (k : Int)] w fun e w' => e = .returned (.int .i64 (numB (zs.drop k) : Int)) ∧ ∃ n, w' = w.drewN n := by
  have c0 : w.cell? ⟨pb, po + k, none⟩ = some (.int .u8 (zs.getD k 0)) := hr k _ (ints_getD (by omega))
  have c1 : w.cell? ⟨pb, po + (k + 1), none⟩ = some (.int .u8 (zs.getD (k + 1) 0)) := hr (k + 1) _ (ints_getD (by omega))
  have c2 : w.cell? ⟨pb, po + (k + 2), none⟩ = some (.int .u8 (zs.getD (k + 2) 0)) := hr (k + 2) _ (ints_getD (by omega))
  have c3 : w.cell? ⟨pb, po + (k + 3), none⟩ = some (.int .u8 (zs.getD (k + 3) 0)) := hr (k + 3) _ (ints_getD (by omega))
  have HN : Hid ((numB (zs.drop k) : Int) = zs.getD k 0 + 256 * zs.getD (k + 1) 0 + 65536 * zs.getD (k + 2) 0 + 16777216 * zs.getD (k + 3) 0) := by
    have := get_byte hb k
    have := get_byte hb (k + 1)
    have := get_byte hb (k + 2)
    have := get_byte hb (k + 3)
    unfold Hid numB
    rw [getD_drop, getD_drop, getD_drop, getD_drop, Nat.add_zero]
    omega
  obtain ⟨l0, u0⟩ := get_byte hb k
  obtain ⟨l1, u1⟩ := get_byte hb (k + 1)
  obtain ⟨l2, u2⟩ := get_byte hb (k + 2)
  obtain ⟨l3, u3⟩ := get_byte hb (k + 3)
  generalize zs.getD k 0 = z0 at *
  generalize zs.getD (k + 1) 0 = z1 at *
  generalize zs.getD (k + 2) 0 = z2 at *
  generalize zs.getD (k + 3) 0 = z3 at *
  have q1 : ¬ (len : Int) < (k : Int) + 4 := by omega
  have p0 : (k : Int) < (len : Int) := by omega
  have p1 : (k : Int) + 1 < (len : Int) := by omega
  have p2 : (k : Int) + 2 < (len : Int) := by omega
  have p3 : (k : Int) + 3 < (len : Int) := by omega
  have n0 : k < len := by omega
  have n1 : k + 1 < len := by omega
  have n2 : k + 2 < len := by omega
  have n3 : k + 3 < len := by omega
  have w1 : IntKind.i64.wrap ((k : Int) + 1) = (k : Int) + 1 := IntWalk.i64_in _ (by omega)
  have w2 : IntKind.i64.wrap ((k : Int) + 2) = (k : Int) + 2 := IntWalk.i64_in _ (by omega)
  have w3 : IntKind.i64.wrap ((k : Int) + 3) = (k : Int) + 3 := IntWalk.i64_in _ (by omega)
  have t1 : ((k : Int) + 1).toNat = k + 1 := by omega
  have t2 : ((k : Int) + 2).toNat = k + 2 := by omega
  have t3 : ((k : Int) + 3).toNat = k + 3 := by omega
  clear hr hl hb
  go_enter Tryd.func49, Tryd.ntmps49
  go_wp2
  go_quiet (fail)
  go_wp2
  go_ret
  refine ⟨?_, _, rfl⟩
  rw [HN.out]
  rfl

theorem run_slice_part (pb po len cap l n : Nat) (h : l + 4 + n ≤ len) (hc : len ≤ cap) (w : World) : (Instr.slice 37 (.slice (some ⟨pb, po, none⟩) len cap) (some (.int .i64 ((l : Int) + 4))) (some (.int .i64 ((l : Int) + 4 + (n : Int)))) none).run Tryd.prog w = .ok (.slice (tailAddr pb po cap (l + 4)) n (cap - (l + 4))) w := by
  have hz : (sizeOf (Tryd.prog.elem 37)).run Tryd.prog w = .ok 1 w := by kernel_rfl
  have ht : Tryd.prog.underlying 37 = some (.slice (Tryd.prog.elem 37)) := by kernel_rfl
  rw [run_slice_lh w 37 _ _ _ ht .i64 .i64 _ _ (by omega) (by omega) (by omega), hz]
  have e1 : ((l : Int) + 4).toNat = l + 4 := by omega
  have e2 : ((l : Int) + 4 + (n : Int)).toNat = l + 4 + n := by omega
  simp only [Result.andThen_ok, sliced, tailAddr, e1, e2]
  rw [show l + 4 + n - (l + 4) = n by omega]
  by_cases h : cap = l + 4
  · rw [if_pos h, if_pos h]
  · rw [if_neg h, if_neg h]; simp [Addr.add_mid]
theorem part_in {w : World} {pb po len cap l n : Nat} {zs : List Int} (hr : w.rangeAt pb po (ints .u8 zs)) (hl : zs.length = len) (hlt : pb < w.heap.size) (h : l + 4 + n ≤ len) (hc : len ≤ cap) : BytesIn w (.slice (tailAddr pb po cap (l + 4)) n (cap - (l + 4))) (((zs.drop l).drop 4).take n) := by
  have hn : (((zs.drop l).drop 4).take n).length = n := by rw [List.length_take, List.length_drop, List.length_drop, hl]; omega
  refine ⟨tailAddr pb po cap (l + 4), cap - (l + 4), by rw [hn], by rw [hn]; omega, fun hp => ?_⟩
  rw [hn] at hp
  refine ⟨pb, po + (l + 4), by unfold tailAddr; rw [if_neg (by omega)], hlt, fun j v hv => ?_⟩
  have := hr (l + 4 + j) v (by
    rw [ints, List.getElem?_map] at hv ⊢
    rw [List.getElem?_take] at hv
    split at hv
    · rw [List.getElem?_drop, List.getElem?_drop, show l + (4 + j) = l + 4 + j by omega] at hv
      exact hv
    · cases hv)
  rw [show po + (l + 4) + j = po + (l + 4 + j) by omega]
  exact this
theorem runframe_short (a : Option Addr) (len cap : Nat) (h : len < 4) (w : World) : Calls Tryd.prog 32 #[.slice a len cap] w (UnfPost none w) := by
  go_enter Tryd.func32, Tryd.ntmps32
  go_wp2_with fail
  refine (rnumber_no a len cap 0 (by omega) (by omega) _).mono ?_
  rintro e w1 ⟨rfl, rfl⟩
  go_wp2
  go_ret2
  exact ⟨rfl, Below.refl _ _⟩
set_option maxHeartbeats 2000000 in
theorem runframe_long (pb po len cap : Nat) (zs : List Int) (hl : zs.length = len) (hb : isBytes zs) (h4 : 4 ≤ len) (hlc : len ≤ cap) (hbig : len ≤ 1000000) (w : World) (hp : pb < w.heap.size) (hr : w.rangeAt pb po (ints .u8 zs)) :
    Calls Tryd.prog 32 #[.slice (some ⟨pb, po, none⟩) len cap] w (UnfPost (unfEnd (unfTo (numB zs) (zs.drop 4))) w) := by
  have HR := Lib.hid hr
  have HL := Lib.hid hl
  have HB := Lib.hid hb
  clear hr hl hb
  obtain ⟨i0, hi, hz0, hz1, hz2⟩ := info_parts infoBytes3
  have HI := Lib.hid hi
  have HZ0 := Lib.hid hz0
  have HZ1 := Lib.hid hz1
  have HZ2 := Lib.hid hz2
  clear hi hz0 hz1 hz2
  obtain ⟨tgt, htgt⟩ : ∃ t, Hid (unfTo (numB zs) (zs.drop 4) = t) := ⟨_, rfl⟩
  rw [htgt.out]
  obtain ⟨N, hN⟩ : ∃ N, Hid (numB zs = N) := ⟨_, rfl⟩
  rw [hN.out] at htgt
  have hNb : (N : Int) ≤ 4294967295 := by have := numB_le zs HB.out; rw [hN.out] at this; omega
  have HNN : Hid (numB (zs.drop 0) = N) := by unfold Hid; rw [List.drop_zero]; exact hN.out
  go_enter Tryd.func32, Tryd.ntmps32
  go_wp2_with fail
  refine (rnumber_yes pb po len cap 0 zs HL.out HB.out (by omega) hbig _ HR.out).mono ?_
  rintro e w1 ⟨rfl, nd, rfl⟩
  rw [HNN.out]
  by_cases hmany : len < N
  · have q1 : (len : Int) < (N : Int) := by omega
    have HT : Hid (tgt = none) := by rw [← htgt.out]; exact unfTo_few N _ (by rw [List.length_drop, HL.out]; omega)
    go_wp2
    go_ret2
    show UnfPost (unfEnd tgt) w _ _
    rw [HT.out]
    exact ⟨rfl, below_drewN w nd⟩
  · have q1 : ¬ (len : Int) < (N : Int) := by omega
    have BW : Hid (Below w.heap.size w (w.drewN nd)) := below_drewN w nd
    generalize hw1 : w.drewN nd = w1 at *
    have HSZ1 : Hid (w1.heap.size = w.heap.size) := by unfold Hid; rw [← hw1]; rfl
    clear hw1
    go_wp2
    go_loopw [7, 5, 6, 8] (fun i pv atv _ wr => ∃ (k : Nat) (pss : List (List Int)) (at_ : Nat), k ≤ N ∧ i = .int .i64 (k : Int) ∧ atv = .int .i64 (at_ : Int) ∧ 4 ≤ at_ ∧ at_ ≤ len ∧ pss.length = k ∧
      PartsOwn wr w.heap.size pv pss ∧ Below w.heap.size w wr ∧ (unfTo (N - k) (zs.drop at_)).map (fun q => (pss ++ q.1, q.2)) = tgt) (fun i _ _ _ _ => N - (intOf i).toNat)
    case atStart =>
      refine ⟨0, [], 4, by omega, rfl, rfl, by omega, by omega, rfl, ⟨[], rfl, World.ownsRow_made _ #[] 0 (by have := HSZ1.out; omega) (by unfold maxLen; omega) rfl, fun i v zs h => by simp at h⟩, BW.out.alloc (by have := HSZ1.out; omega) _, ?_⟩
      rw [Nat.sub_zero, htgt.out]
      cases tgt <;> simp
    case round =>
      obtain ⟨k, pss, l, hk, rfl, rfl, hl4, hll, hpl, hpo, hbel, hmap⟩ := hrel
      have HPL := Lib.hid hpl
      have HPO := Lib.hid hpo
      have HBE := Lib.hid hbel
      have HMP := Lib.hid hmap
      clear hpl hpo hbel hmap
      have hrw : Hid (wr.rangeAt pb po (ints .u8 zs)) := fun j v hv => by rw [HBE.out.cell (p := ⟨pb, po + j, none⟩) hp]; exact HR.out j v hv
      by_cases hlt : k < N
      · have q2 : (k : Int) < (N : Int) := by omega
        have HUN : Hid ((unfTo (N - k - 1 + 1) (zs.drop l)).map (fun q => (pss ++ q.1, q.2)) = tgt) := by
          have h1 := HMP.out
          rw [show N - k = N - k - 1 + 1 by omega] at h1
          exact h1
        have HDL : Hid ((zs.drop l).length = len - l) := by unfold Hid; rw [List.length_drop, HL.out]
        by_cases hsh : len < l + 4
        · have HT : Hid (tgt = none) := by
            have h1 := HUN.out
            rw [unfTo_none _ _ (by rw [cutP, if_pos (by rw [HDL.out]; omega)])] at h1
            exact h1.symm
          go_wp2_with fail
          refine (rnumber_no _ len cap l hsh (by omega) _).mono ?_
          rintro e w3 ⟨rfl, rfl⟩
          go_wp2
          go_ret2
          show UnfPost (unfEnd tgt) w _ _
          rw [HT.out]
          exact ⟨rfl, HBE.out⟩
        · go_wp2_with fail
          refine (rnumber_yes pb po len cap l zs HL.out HB.out (by omega) hbig _ hrw.out).mono ?_
          rintro e w3 ⟨rfl, n3, rfl⟩
          obtain ⟨n, hn⟩ : ∃ n, Hid (numB (zs.drop l) = n) := ⟨_, rfl⟩
          rw [hn.out]
          have hnb : (n : Int) ≤ 4294967295 := by have := numB_le _ (HB.out.drop l); rw [hn.out] at this; omega
          have BEL3 : Hid (Below w.heap.size w (wr.drewN n3)) := HBE.out.trans ((below_drewN wr n3).mono HBE.out.size)
          have hplt : pb < wr.heap.size := Nat.lt_of_lt_of_le hp HBE.out.size
          by_cases hmuch : len - l - 4 < n
          · have HT : Hid (tgt = none) := by
              have h1 := HUN.out
              rw [unfTo_none _ _ (by rw [cutP, if_neg (by rw [HDL.out]; omega), if_pos (by rw [HDL.out, hn.out]; omega)])] at h1
              exact h1.symm
            have q3 : (len : Int) - (l : Int) - 4 < (n : Int) := by omega
            go_wp2
            go_ret2
            show UnfPost (unfEnd tgt) w _ _
            rw [HT.out]
            exact ⟨rfl, BEL3.out⟩
          · have q3 : ¬ ((len : Int) - (l : Int) - 4 < (n : Int)) := by omega
            have HCP : Hid (((unfTo (N - (k + 1)) (zs.drop (l + (4 + n)))).map fun q => ((pss ++ [((zs.drop l).drop 4).take n]) ++ q.1, q.2)) = tgt) := by
              have h1 := HUN.out
              rw [unfTo_some _ _ (((zs.drop l).drop 4).take n) (((zs.drop l).drop 4).drop n) (by rw [cutP, if_neg (by rw [HDL.out]; omega), if_neg (by rw [HDL.out, hn.out]; omega), hn.out])] at h1
              unfold Hid
              rw [← h1, unf_map_assoc, show N - (k + 1) = N - k - 1 by omega, List.drop_drop, List.drop_drop, Nat.add_assoc]
            have hsl : ∀ w, (Instr.slice 37 (.slice (some ⟨pb, po, none⟩) len cap) (some (.int .i64 ((l : Int) + 4))) (some (.int .i64 ((l : Int) + 4 + (n : Int)))) none).run Tryd.prog w = .ok (.slice (tailAddr pb po cap (l + 4)) n (cap - (l + 4))) w := fun w => run_slice_part pb po len cap l n (by omega) hlc w
            obtain ⟨part, hpart⟩ : ∃ p, Hid (p = ((zs.drop l).drop 4).take n) := ⟨_, rfl⟩
            rw [← hpart.out] at HCP
            have HPI : Hid (BytesIn (wr.drewN n3) (.slice (tailAddr pb po cap (l + 4)) n (cap - (l + 4))) part) := by unfold Hid; rw [hpart.out]; exact part_in (w := wr.drewN n3) hrw.out HL.out hplt (by omega) hlc
            have HPN : Hid (part.length = n) := by unfold Hid; rw [hpart.out, List.length_take, List.length_drop, HDL.out]; omega
            have HNO : Hid (NilOk (.slice (tailAddr pb po cap (l + 4)) n (cap - (l + 4)))) := by unfold Hid tailAddr; split <;> trivial
            have PO3 : Hid (PartsOwn (wr.drewN n3) w.heap.size _ pss) := HPO.out.below (below_drewN wr n3)
            clear hpart HUN HMP HDL hrw
            generalize tailAddr pb po cap (l + 4) = ta at *
            generalize cap - (l + 4) = tc at *
            generalize wr.drewN n3 = w3 at *
            have hcl := Lib.hid (copyb_walk (.slice ta n tc) part w3 HPI.out HNO.out (by rw [HPN.out]; omega))
            clear HPI HNO
            go_wp2_with fail
            refine hcl.out.mono ?_
            rintro e w4 ⟨nv, rfl, hnv, hb4⟩
            obtain ⟨na, nc, rfl, -⟩ := id (owns_bytes hnv)
            have BEL4 := Lib.hid (BEL3.out.trans (hb4.mono BEL3.out.size))
            have PO4 := Lib.hid (PO3.out.below hb4)
            have NV := Lib.hid hnv
            have hw34 := hb4.size
            have hww3 := BEL3.out.size
            have HPVL : Hid (∀ g, Value.ownBlock _ = some g → g < w3.heap.size) := fun g hg => by obtain ⟨_, _, ho, _⟩ := PO3.out; exact (ho.lt g hg).2
            have NV_nil0 := owns_nilok hnv
            clear hnv hb4 hcl PO3 BEL3 HPO HBE
            rw [HPN.out] at NV_nil0 ⊢
            have NV_nil := Lib.hid NV_nil0
            clear NV_nil0
            have NV4 : Hid (w4.ownsRow w3.heap.size 5 1 (.slice na n nc) part.length (ints .u8 part)) := by have h := NV.out; rw [HPN.out] at h; unfold Hid; rw [HPN.out]; exact h
            obtain ⟨psv, hpv1, hpv2, hpv3⟩ := PO4.out
            have OW5 : Hid ((w4.alloc (.cells #[.slice na n nc] 37)).ownsRow w.heap.size 37 1 _ pss.length psv) := hpv2.alloc _
            have HK1 : Hid (pss.length ≤ 1000000) := by have := HPL.out; unfold Hid; omega
            have HM1 : Hid (pss.length + 1 ≤ maxLen) := by have := HK1.out; unfold Hid maxLen; omega
            have HM2 : Hid ((pss.length + 1) * 24 ≤ 140737488355328) := by have := HK1.out; unfold Hid; omega
            have HSZ5 : Hid (w.heap.size ≤ (w4.alloc (.cells #[.slice na n nc] 37)).heap.size) := by have := BEL4.out.size; unfold Hid; simp; omega
            have HC5 : Hid (∀ j u, [Value.slice na n nc][j]? = some u → (w4.alloc (.cells #[.slice na n nc] 37)).cell? ((⟨w4.heap.size, 0, none⟩ : Addr).add j) = some u) := fun j u hj => by
              cases j with
              | zero => simp at hj; subst hj; simp [Addr.add]
              | succ j => simp at hj
            have HO5 : Hid (∀ u ∈ [Value.slice na n nc], u.oneCell' = true) := fun u hu => by simp at hu; subst hu; rfl
            go_wp2_with (with_reducible refine wpList_append_lies _ (o := ⟨some 50, _, _, _, _, _⟩) ?d1 (.tmp 39) (.tmp 49) 35 ?d2 w.heap.size 37 i0 _ 1 24 Tryd.underlying35 HI.out HZ0.out HZ1.out HZ2.out ?d3 ?d4 _ pss.length psv ?d5 OW5.out ⟨w4.heap.size, 0, none⟩ 1 1 [.slice na n nc] ?d6 ?d7 HC5.out HO5.out ?d8 HM1.out HM2.out HSZ5.out _ rfl ?_)
            case d1 => rfl
            case d2 => rfl
            all_goals try (case d3 => rfl)
            all_goals try (case d4 => decide)
            all_goals try (case d5 => rfl)
            all_goals try (case d6 => rfl)
            all_goals try (case d7 => rfl)
            all_goals try (case d8 => decide)
            intro g' cap' w6 ho6 hg6 hat6 hlt6
            have HB6 : Hid (Below w.heap.size w w6) := (BEL4.out.alloc BEL4.out.size _).grown hg6 HSZ5.out (fun j hj => by have := (OW5.out.lt j hj).1; omega)
            have PO6 : Hid (PartsOwn w6 w.heap.size (.slice (some ⟨g', 0, none⟩) (pss.length + 1) cap') (pss ++ [part])) := by
              refine ⟨psv ++ [.slice na n nc], by rw [List.length_append, List.length_append, hpv1]; rfl, by rw [List.length_append]; exact ho6, fun i v zs' hv hz => ?_⟩
              by_cases hil : i < pss.length
              · rw [List.getElem?_append_left (by rw [hpv1]; exact hil)] at hv
                rw [List.getElem?_append_left hil] at hz
                obtain ⟨b1, b2, b3, b4⟩ := hpv3 i v zs' hv hz
                obtain ⟨d1, d2⟩ := (away_of b1 b2).grown _ rfl hg6 hat6
                exact ⟨d1, d2, b3, b4⟩
              · have hi1 := (List.getElem?_eq_some_iff.1 hz).1
                rw [List.length_append] at hi1
                have hie : i = pss.length := by simp at hi1; omega
                subst hie
                rw [List.getElem?_append_right (Nat.le_refl _)] at hz
                rw [List.getElem?_append_right (by rw [hpv1]; exact Nat.le_refl _), hpv1] at hv
                simp at hv hz
                subst hv
                subst hz
                have haw : Away w4 _ (.slice na n nc) part := away_of (owns_bytes NV4.out) (fun g hg => by
                  obtain ⟨a', c', e', hc', hp'⟩ := owns_bytes NV4.out
                  refine ⟨a', c', e', hc', fun h => ?_⟩
                  obtain ⟨pb', po', f1, f2, f3⟩ := hp' h
                  have h1 := owns_row NV4.out pb' (by rw [e', f1]; rfl)
                  have h2 := HPVL.out g hg
                  exact ⟨pb', po', f1, by omega, f2, f3⟩)
                obtain ⟨d1, d2⟩ := haw.grown _ rfl hg6 hat6
                exact ⟨d1, d2, NV_nil.out, by rw [HPN.out]; omega⟩
            clear ho6 hg6 hat6 hlt6 hpv1 hpv2 hpv3 OW5 PO4 NV NV4 HC5 BEL4
            go_wp2
            refine ⟨⟨k + 1, pss ++ [part], l + (4 + n), by omega, by go_num, by go_num, by omega, by omega, by rw [List.length_append, HPL.out]; rfl, PO6.out, HB6.out, HCP.out⟩, by simp [intOf]; omega⟩
      · have q2 : ¬ (k : Int) < (N : Int) := by omega
        have HT : Hid (tgt = some (pss, zs.drop l)) := by
          have h1 := HMP.out
          rw [show N - k = 0 by omega, unfTo] at h1
          unfold Hid
          rw [← h1]; simp
        by_cases hr0 : l = len
        · have q3 : ((l : Int) != (len : Int)) = false := by rw [hr0]; simp
          have HT2 : Hid (unfEnd tgt = some pss) := by
            have : zs.drop l = [] := List.drop_eq_nil_of_le (by rw [HL.out]; omega)
            unfold Hid; rw [HT.out, unfEnd, if_pos this]
          have HPI := Lib.hid (HPO.out.in (by have := HPL.out; omega))
          clear hr0
          go_wp2
          go_ret2
          show UnfPost (unfEnd tgt) w _ _
          rw [HT2.out]
          exact ⟨_, rfl, HPI.out, HBE.out⟩
        · have q3 : ((l : Int) != (len : Int)) = true := by simp; omega
          have HT2 : Hid (unfEnd tgt = none) := by
            have : zs.drop l ≠ [] := fun h => hr0 (by have := congrArg List.length h; rw [List.length_drop, HL.out] at this; simp at this; omega)
            unfold Hid; rw [HT.out, unfEnd, if_neg this]
          go_wp2
          go_ret2
          show UnfPost (unfEnd tgt) w _ _
          rw [HT2.out]
          exact ⟨rfl, HBE.out⟩
theorem runframe_walk (v : Value) (zs : List Int) (w : World) (hv : BytesIn w v zs) (hb : isBytes zs) (hl : zs.length ≤ 1000000) : Calls Tryd.prog 32 #[v] w (UnfPost (unframeL zs) w) := by
  obtain ⟨a, cap, rfl, hc, hp⟩ := hv
  by_cases h : zs.length < 4
  · rw [unframeL, if_pos h]; exact runframe_short a _ cap h w
  · obtain ⟨pb, po, rfl, h1, h2⟩ := hp (by omega)
    rw [unframeL, if_neg h]
    exact runframe_long pb po _ cap zs rfl hb (by omega) hc hl w h1 h2
end Go.Proofs.YtmaobmeaanafcaaDoor
