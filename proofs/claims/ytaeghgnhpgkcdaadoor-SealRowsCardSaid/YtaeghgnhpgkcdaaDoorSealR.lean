/- SealRows answers true. -/
import Derived.Test.YtaeghgnhpgkcdaaDoorSealK
import Derived.Test.YtaeghgnhpgkcdaaDoorSealRw
namespace Go.Proofs.YtaeghgnhpgkcdaaDoor
open Go Go.RowKit
set_option maxRecDepth 100000

def rowAt (zss : List (List Int)) (k : Nat) : List Int := zss.getD k []
/-- How many sectors the first k records need. -/
def cntK (zss : List (List Int)) : Nat → Nat
  | 0 => 0
  | k + 1 => cntK zss k + needN (rowAt zss k).length
/-- The first k records' sectors. -/
def rowsK (g m : Nat) (zss : List (List Int)) : Nat → List Int
  | 0 => []
  | k + 1 => rowsK g m zss k ++ packF g (m + cntK zss k) (rowAt zss k)
theorem rowsK_length (g m : Nat) (zss : List (List Int)) : ∀ k, (rowsK g m zss k).length = 64 * cntK zss k
  | 0 => rfl
  | k + 1 => by rw [rowsK, List.length_append, rowsK_length g m zss k, packF_length, cntK]; omega
theorem rowsK_bytes (g m : Nat) {zss : List (List Int)} (h : ∀ zs ∈ zss, isBytes zs) : ∀ k, isBytes (rowsK g m zss k)
  | 0 => fun x hx => by simp [rowsK] at hx
  | k + 1 => by
    rw [rowsK]
    refine bytes_app (rowsK_bytes g m h k) (packF_bytes _ _ ?_)
    unfold rowAt
    rw [List.getD_eq_getElem?_getD]
    cases hk : zss[k]? with
    | none => exact fun x hx => by simp at hx
    | some zs => exact h zs (List.mem_of_getElem? hk)
theorem cntK_mono (zss : List (List Int)) {i j : Nat} (h : i ≤ j) : cntK zss i ≤ cntK zss j := by
  induction j with
  | zero => rw [show i = 0 by omega]; exact Nat.le_refl _
  | succ j ih =>
    by_cases e : i = j + 1
    · rw [e]; exact Nat.le_refl _
    · rw [cntK]; have := ih (by omega); omega
theorem cntK_le (zss : List (List Int)) : ∀ k, k ≤ zss.length → cntK zss k ≤ (zss.take k).flatten.length + 2 * k
  | 0, _ => by simp [cntK]
  | k + 1, h => by
    have ih := cntK_le zss k (by omega)
    have hx : zss[k]? = some (rowAt zss k) := by unfold rowAt; rw [List.getD_eq_getElem?_getD, List.getElem?_eq_getElem (by omega)]; rfl
    rw [cntK, List.take_add_one, hx]
    simp only [Option.toList_some, List.flatten_append, List.length_append, List.flatten_cons, List.flatten_nil, List.append_nil]
    unfold needN
    omega
theorem rowsK_drop (g m : Nat) (zss : List (List Int)) {i : Nat} : ∀ n, i < n → ∃ rest, (rowsK g m zss n).drop (64 * cntK zss i) = packF g (m + cntK zss i) (rowAt zss i) ++ rest
  | 0, h => by omega
  | n + 1, h => by
    by_cases e : i = n
    · subst e
      refine ⟨[], ?_⟩
      rw [rowsK, ← rowsK_length g m zss i, List.drop_left, List.append_nil]
    · obtain ⟨rest, hr⟩ := rowsK_drop g m zss (i := i) n (by omega)
      refine ⟨rest ++ packF g (m + cntK zss n) (rowAt zss n), ?_⟩
      rw [rowsK, List.drop_append_of_le_length (by rw [rowsK_length]; have := cntK_mono zss (show i ≤ n by omega); omega), hr, List.append_assoc]
theorem run_blks_tail (g o n c l : Nat) (h1 : l ≤ n) (hc : l < c) (w : World) : (Instr.sliceAt 23 (.slice (some ⟨g, o, none⟩) n c) (some (.int .i64 (l : Int))) none none).run Tryd.prog w = .ok (.slice (some ⟨g, o + 64 * l, none⟩) (n - l) (c - l)) w := by
  have hz : (sizeOf (Tryd.prog.elem 23)).run Tryd.prog w = .ok 64 w := by kernel_rfl
  rw [run_sliceAt_slice w 23 _ _ _ _ elemBlocks, run_slice_l w 23 _ n c elemBlocks .i64 (l : Int) (by omega) (by omega), hz]
  simp only [Result.andThen_ok, sliced, Int.toNat_natCast, Option.map_some, Addr.add_mid, Nat.mul_comm l 64]
  rw [if_neg (by omega)]
theorem blks_tail {w : World} {pb po n c j : Nat} {l : List Int} (hr : w.rangeAt pb po (ints .u8 l)) (hb : pb < w.heap.size) (hl : l.length = 64 * n) (hj : j ≤ n) (hc : n ≤ c) : BlksIn w (.slice (some ⟨pb, po + 64 * j, none⟩) (n - j) (c - j)) (n - j) (l.drop (64 * j)) := by
  refine ⟨_, c - j, rfl, by omega, by rw [List.length_drop]; omega, fun _ => ⟨pb, po + 64 * j, rfl, hb, fun i v hv => ?_⟩⟩
  rw [← ints_drop, List.getElem?_drop] at hv
  have := hr (64 * j + i) v hv
  rw [← Nat.add_assoc] at this
  exact this
theorem partsElem : Tryd.prog.underlying 45 = some (.slice (Tryd.prog.elem 45)) := by kernel_rfl
theorem run_at_part (B off n cap m : Nat) (hm : m < n) (w : World) : (Instr.indexAt 45 (.slice (some ⟨B, off, none⟩) n cap) (.int .i64 (m : Int))).run Tryd.prog w = .ok (.pointer (some ⟨B, off + m, none⟩)) w := by
  rw [run_indexAt_slice w 45 _ _ _ _ _ partsElem]
  have hz : (sizeOf (Tryd.prog.elem 45)).run Tryd.prog w = .ok 1 w := by kernel_rfl
  rw [if_pos (by omega), hz, Result.andThen_ok, Addr.add_mid, Int.toNat_natCast, Nat.mul_one]
/-- A part, out of a slice of them. -/
theorem PartsIn.part {w : World} {a : Option Addr} {n cap : Nat} {zss : List (List Int)} (h : PartsIn w (.slice a n cap) zss) (hn : zss.length = n) {k : Nat} (hk : k < n) :
    ∃ qb qo pv, a = some ⟨qb, qo, none⟩ ∧ w.cell? ⟨qb, qo + k, none⟩ = some pv ∧ BytesIn w pv (rowAt zss k) ∧ NilOk pv ∧ qb < w.heap.size := by
  obtain ⟨a', cap', ps, e, h2, h3, h4, h5⟩ := h
  obtain ⟨rfl, -, -⟩ := Value.slice.inj e
  obtain ⟨qb, qo, h6, h7, h8⟩ := h4 (by omega)
  obtain ⟨pv, hpv⟩ : ∃ v, ps[k]? = some v := ⟨_, List.getElem?_eq_getElem (by omega)⟩
  have hx : zss[k]? = some (rowAt zss k) := by unfold rowAt; rw [List.getD_eq_getElem?_getD, List.getElem?_eq_getElem (by omega)]; rfl
  obtain ⟨h9, h10, _⟩ := h5 k pv _ hpv hx
  exact ⟨qb, qo, pv, h6, h8 k pv hpv, h9, h10, h7⟩
set_option maxHeartbeats 8000000 in
theorem srows_main (v : Value) (zss : List (List Int)) (gen num : Int) (w : World) (hv : PartsIn w v zss) (hb : ∀ zs ∈ zss, isBytes zs) (hK : KW w) :
    Calls Tryd.prog 7 #[v, .int .i64 gen, .int .i64 num] w fun e w' => e = .returned (.bool true) ∧ Below w.heap.size w w' := by
  obtain ⟨a, cap, ps, rfl, -⟩ := id hv
  have HV := Lib.hid hv
  have HB := Lib.hid hb
  have HK := Lib.hid hK
  obtain ⟨n, hn⟩ : ∃ n, Hid (zss.length = n) := ⟨_, rfl⟩
  rw [hn.out] at HV ⊢
  obtain ⟨B, hB⟩ : ∃ B, Hid (w.heap.size = B) := ⟨_, rfl⟩
  have HKB : Hid (0 < B) := by unfold Hid; rw [← hB.out]; exact hK.lt
  rw [hB.out]
  clear hv hb hK
  go_enter Tryd.func7, Tryd.ntmps7
  go_wp2_with fail
  refine (slalive_walk _ HK.out).mono ?_
  rintro e w1 ⟨rfl, hb1⟩
  rw [hB.out] at hb1
  have BE1 := Lib.hid hb1
  have hs1 : Hid (B ≤ w1.heap.size) := by unfold Hid; have := hb1.size; have := hB.out; omega
  clear hb1
  go_wp2_with fail
  refine (rows3_walk _ zss _ (HV.out.below BE1.out (Nat.le_of_eq hB.out))).mono ?_
  rintro e w2 ⟨r, rfl, hr, rfl⟩
  have HRW := Lib.hid hr
  clear hr
  by_cases hbig : 3000 < r
  · have q0 : (3000 : Int) < (r : Int) := by omega
    go_wp2
    go_ret
    exact ⟨rfl, BE1.out⟩
  · have q0 : ¬ ((3000 : Int) < (r : Int)) := by omega
    have hfl := HRW.out (by omega)
    rw [hn.out] at hfl
    have n3 : n ≤ 3000 := hfl.2
    have HFL := Lib.hid hfl
    clear hfl HRW
    by_cases hn0 : num < 0
    · go_wp2
      go_ret
      exact ⟨rfl, BE1.out⟩
    · by_cases hn1 : 1048576 < num
      · go_wp2
        go_ret
        exact ⟨rfl, BE1.out⟩
      · obtain ⟨m, rfl⟩ := Int.eq_ofNat_of_zero_le (show 0 ≤ num by omega)
        have m20 : m ≤ 1048576 := by omega
        have CK : Hid (∀ k, k ≤ n → cntK zss k ≤ 9000) := fun k hk => by
          have h1 := cntK_le zss k (by rw [hn.out]; exact hk)
          have h2 : (zss.take k).flatten.length ≤ zss.flatten.length := by
            conv => rhs; rw [← List.take_append_drop k zss, List.flatten_append, List.length_append]
            omega
          have := HFL.out
          omega
        obtain ⟨q, hq⟩ : ∃ q, Hid (w1.heap.size = q) := ⟨_, rfl⟩
        go_upto_region 5 with (fail)
        refine lin_begin (opsOf Tryd.f7 5) (by kernel_rfl) ?_
        refine lin_newrow 0 37 [] q 0 (some 29) (by kernel_rfl) (by kernel_rfl) hq (by kernel_rfl) ?_
        intro w2 b2 be2 hs2
        refine lin_now 1 (.slice (some ⟨q, 0, none⟩) 0 0) (some 7) (by kernel_rfl) (by kernel_rfl) (by kernel_rfl) ?_
        refine lin_done 2 (by kernel_rfl) ?_
        have O2 : Hid (OwnB w2 B (.slice (some ⟨q, 0, none⟩) 0 0) 0 (rowsK gen.toNat m zss 0)) := blk_own (n := 0) (l := []) b2 rfl (by have := hs1.out; have := hq.out; omega) (by omega)
        have BE2 : Hid (Below B w w2) := BE1.out.trans (be2.mono (by have := hs1.out; have := hq.out; omega))
        clear b2 be2 hs2 BE1 hs1 hq
        generalize hact : Act.put _ (some 7) _ = act
        simp only [Act.put, List.setIfInBounds_toArray, List.set_cons_succ, List.set_cons_zero] at hact
        subst hact
        go_wp2
        go_loopw [8, 7, 9, 10] (fun iv av _ _ wr => ∃ (i : Nat) (v7 : Value), i ≤ n ∧ iv = .int .i64 (i : Int) ∧ v7 = av ∧ OwnB wr B v7 (cntK zss i) (rowsK gen.toNat m zss i) ∧ Hid (∀ j, j < i → okPack gen ((m + cntK zss j : Nat) : Int) (rowAt zss j).length) ∧ Below B w wr) (fun iv _ _ _ _ => n - (intOf iv).toNat)
        case atStart => exact ⟨0, _, Nat.zero_le _, rfl, rfl, O2.out, fun j hj => absurd hj (by omega), BE2.out⟩
        case round =>
          obtain ⟨i, v7, hi, rfl, rfl, ho, hall, hbe⟩ := hrel
          have OW := Lib.hid ho
          have BE := Lib.hid hbe
          have SZ : Hid (B ≤ wr.heap.size) := by unfold Hid; have := hbe.size; have := hB.out; omega
          obtain ⟨N, hN⟩ : ∃ N, Hid (cntK zss i = N) := ⟨_, rfl⟩
          have N9 : N ≤ 9000 := by rw [← hN.out]; exact CK.out i hi
          have hwv := HV.out.below hbe (Nat.le_of_eq hB.out)
          have HWV := Lib.hid hwv
          rw [hN.out] at OW
          obtain ⟨va, vc, e7, -⟩ := id OW.out.in
          subst e7
          clear ho hbe O2 BE2 hwv
          by_cases hlt : i < n
          · have r1 : (i : Int) < (n : Int) := by omega
            obtain ⟨qb, qo, pv, rfl, hcell, hpb, hpn, hqb⟩ := HWV.out.part hn.out hlt
            have HC := Lib.hid hcell
            obtain ⟨rc, hrc⟩ : ∃ rc, Hid (rowAt zss i = rc) := ⟨_, rfl⟩
            rw [hrc.out] at hpb
            have PB := Lib.hid hpb
            have PN := Lib.hid hpn
            obtain ⟨pa, pc, e8, -⟩ := id PB.out
            subst e8
            have KW1 : Hid (KW wr) := HK.out.below BE.out HKB.out
            clear hcell hpb hpn hqb
            by_cases hok : okPack gen ((m + N : Nat) : Int) rc.length
            · obtain ⟨g, rfl⟩ := Int.eq_ofNat_of_zero_le (show 0 ≤ gen by have := hok.2.1; omega)
              rw [Int.toNat_natCast] at OW
              have HOK := Lib.hid hok
              clear hok
              go_upto_region 9 with (fail)
              refine lin_begin (opsOf Tryd.f7 9) (by kernel_rfl) ?_
              refine lin_now 0 (.int .i64 (g : Int)) (some 37) (by kernel_rfl) (by kernel_rfl) (by kernel_rfl) ?_
              refine lin_now 1 (.int .i64 (m : Int)) (some 38) (by kernel_rfl) (by kernel_rfl) (by kernel_rfl) ?_
              refine lin_now 2 (.slice va N vc) (some 39) (by kernel_rfl) (by kernel_rfl) (by kernel_rfl) ?_
              refine lin_now 3 (.int .i64 (N : Int)) (some 40) (by kernel_rfl) (by kernel_rfl) (by kernel_rfl) ?_
              refine lin_now 4 (.int .i64 (IntKind.i64.wrap ((m : Int) + (N : Int)))) (some 41) (by kernel_rfl) (by kernel_rfl) (by kernel_rfl) ?_
              rw [show IntKind.i64.wrap ((m : Int) + (N : Int)) = ((m + N : Nat) : Int) from (IntWalk.i64_in _ (by omega)).trans (by omega)]
              refine lin_now 5 (.slice (some ⟨qb, qo, none⟩) n cap) (some 42) (by kernel_rfl) (by kernel_rfl) (by kernel_rfl) ?_
              refine lin_now 6 (.int .i64 (i : Int)) (some 43) (by kernel_rfl) (by kernel_rfl) (by kernel_rfl) ?_
              refine lin_now 7 (.pointer (some ⟨qb, qo + i, none⟩)) (some 44) (by kernel_rfl) (by kernel_rfl) (exec_indexAt 45 (.tmp 42) (.tmp 43) (by kernel_rfl) _ _ _ (by kernel_rfl) (by kernel_rfl) (run_at_part qb qo n cap i hlt wr)) ?_
              refine lin_now 8 (.slice pa rc.length pc) (some 45) (by kernel_rfl) (by kernel_rfl) (exec_load_cell 22 (.tmp 44) (by kernel_rfl) qb (qo + i) (by kernel_rfl) _ HC.out _ Tryd.underlying22 rfl) ?_
              refine lin_call 9 10 #[.int .i64 (g : Int), .int .i64 ((m + N : Nat) : Int), .slice pa rc.length pc] (some 46) _ (by kernel_rfl) (by kernel_rfl) (by kernel_rfl) (pack_ok g (m + N) _ rc _ PB.out PN.out HOK.out KW1.out) ?_
              rintro e w3 ⟨G, rfl, hG, hblk, hb3⟩
              refine ⟨_, rfl, ?_⟩
              obtain ⟨kn, hkn⟩ : ∃ kn, Hid (needN rc.length = kn) := ⟨_, rfl⟩
              rw [hkn.out]
              refine lin_now 10 (.tuple #[.slice (some ⟨G, 0, none⟩) kn kn, .bool true]) (some 36) (by kernel_rfl) (by kernel_rfl) (by kernel_rfl) ?_
              refine lin_now 11 (.slice (some ⟨G, 0, none⟩) kn kn) (some 47) (by kernel_rfl) (by kernel_rfl) (by kernel_rfl) ?_
              refine lin_now 12 (.bool true) (some 48) (by kernel_rfl) (by kernel_rfl) (by kernel_rfl) ?_
              refine lin_now 13 (.slice (some ⟨G, 0, none⟩) kn kn) (some 9) (by kernel_rfl) (by kernel_rfl) (by kernel_rfl) ?_
              refine lin_now 14 (.bool true) (some 10) (by kernel_rfl) (by kernel_rfl) (by kernel_rfl) ?_
              refine lin_done 15 (by kernel_rfl) ?_
              have kn45 : kn ≤ 45 := by have := needN_le rc.length HOK.out.1; rw [hkn.out] at this; exact this
              have O3 := Lib.hid (OW.out.below hb3)
              have L3 : Hid (BlksIn w3 (.slice (some ⟨G, 0, none⟩) kn kn) kn (packF g (m + N) rc)) := blks_blk hblk (by rw [packF_length, hkn.out])
              have BE3 : Hid (Below B w w3) := BE.out.trans (hb3.mono SZ.out)
              have SZ3 : Hid (B ≤ w3.heap.size) := Nat.le_trans SZ.out hb3.size
              clear OW BE SZ hG hblk hb3 PB PN HC KW1 HWV
              generalize hact : Act.put _ (some 10) _ = act
              simp only [Act.put, List.setIfInBounds_toArray, List.set_cons_succ, List.set_cons_zero] at hact
              subst hact
              go_upto_region 12 with (fail)
              refine lin_begin (opsOf Tryd.f7 12) (by kernel_rfl) ?_
              refine lin_now 0 (.slice va N vc) (some 51) (by kernel_rfl) (by kernel_rfl) (by kernel_rfl) ?_
              refine lin_now 1 (.slice (some ⟨G, 0, none⟩) kn kn) (some 52) (by kernel_rfl) (by kernel_rfl) (by kernel_rfl) ?_
              refine lin_appendblk 2 (some 53) (by kernel_rfl) (by kernel_rfl) (by kernel_rfl) (.tmp 51) (.tmp 52) (by kernel_rfl) B _ N _ (by kernel_rfl) O3.out _ kn _ (by kernel_rfl) L3.out trivial (by omega) SZ3.out ?_
              intro v4 w4 ho4 hg4
              refine lin_now 3 (v4) (some 7) (by kernel_rfl) (by kernel_rfl) (by kernel_rfl) ?_
              refine lin_done 4 (by kernel_rfl) ?_
              have BE4 : Hid (Below B w w4) := BE3.out.grown hg4 SZ3.out (fun k hk => (O3.out.row k hk).1)
              have O4 : Hid (OwnB w4 B v4 (cntK zss (i + 1)) (rowsK ((g : Int)).toNat m zss (i + 1))) := by
                unfold Hid
                rw [Int.toNat_natCast, cntK, rowsK, hrc.out, hN.out, hkn.out]
                exact ho4
              have HA4 : Hid (∀ j, j < i + 1 → okPack (g : Int) ((m + cntK zss j : Nat) : Int) (rowAt zss j).length) := fun j hj => by
                by_cases e : j = i
                · subst e; rw [hrc.out, hN.out]; exact HOK.out
                · exact hall.out j (by omega)
              clear ho4 hg4 O3 L3 BE3 SZ3
              generalize hact : Act.put _ (some 7) _ = act
              simp only [Act.put, List.setIfInBounds_toArray, List.set_cons_succ, List.set_cons_zero] at hact
              subst hact
              go_wp2
              exact ⟨⟨i + 1, v4, by omega, by go_num, rfl, O4.out, HA4, BE4.out⟩, by simp [intOf]; omega⟩
            · have HOK := Lib.hid hok
              clear hok
              go_upto_region 9 with (fail)
              refine lin_begin (opsOf Tryd.f7 9) (by kernel_rfl) ?_
              refine lin_now 0 (.int .i64 gen) (some 37) (by kernel_rfl) (by kernel_rfl) (by kernel_rfl) ?_
              refine lin_now 1 (.int .i64 (m : Int)) (some 38) (by kernel_rfl) (by kernel_rfl) (by kernel_rfl) ?_
              refine lin_now 2 (.slice va N vc) (some 39) (by kernel_rfl) (by kernel_rfl) (by kernel_rfl) ?_
              refine lin_now 3 (.int .i64 (N : Int)) (some 40) (by kernel_rfl) (by kernel_rfl) (by kernel_rfl) ?_
              refine lin_now 4 (.int .i64 (IntKind.i64.wrap ((m : Int) + (N : Int)))) (some 41) (by kernel_rfl) (by kernel_rfl) (by kernel_rfl) ?_
              rw [show IntKind.i64.wrap ((m : Int) + (N : Int)) = ((m + N : Nat) : Int) from (IntWalk.i64_in _ (by omega)).trans (by omega)]
              refine lin_now 5 (.slice (some ⟨qb, qo, none⟩) n cap) (some 42) (by kernel_rfl) (by kernel_rfl) (by kernel_rfl) ?_
              refine lin_now 6 (.int .i64 (i : Int)) (some 43) (by kernel_rfl) (by kernel_rfl) (by kernel_rfl) ?_
              refine lin_now 7 (.pointer (some ⟨qb, qo + i, none⟩)) (some 44) (by kernel_rfl) (by kernel_rfl) (exec_indexAt 45 (.tmp 42) (.tmp 43) (by kernel_rfl) _ _ _ (by kernel_rfl) (by kernel_rfl) (run_at_part qb qo n cap i hlt wr)) ?_
              refine lin_now 8 (.slice pa rc.length pc) (some 45) (by kernel_rfl) (by kernel_rfl) (exec_load_cell 22 (.tmp 44) (by kernel_rfl) qb (qo + i) (by kernel_rfl) _ HC.out _ Tryd.underlying22 rfl) ?_
              refine lin_call 9 10 #[.int .i64 gen, .int .i64 ((m + N : Nat) : Int), .slice pa rc.length pc] (some 46) _ (by kernel_rfl) (by kernel_rfl) (by kernel_rfl) (pack_no gen _ pa rc.length pc _ HOK.out) ?_
              rintro e w3 ⟨rfl, rfl⟩
              refine ⟨_, rfl, ?_⟩
              refine lin_now 10 (.tuple #[.slice none 0 0, .bool false]) (some 36) (by kernel_rfl) (by kernel_rfl) (by kernel_rfl) ?_
              refine lin_now 11 (.slice none 0 0) (some 47) (by kernel_rfl) (by kernel_rfl) (by kernel_rfl) ?_
              refine lin_now 12 (.bool false) (some 48) (by kernel_rfl) (by kernel_rfl) (by kernel_rfl) ?_
              refine lin_now 13 (.slice none 0 0) (some 9) (by kernel_rfl) (by kernel_rfl) (by kernel_rfl) ?_
              refine lin_now 14 (.bool false) (some 10) (by kernel_rfl) (by kernel_rfl) (by kernel_rfl) ?_
              refine lin_done 15 (by kernel_rfl) ?_
              generalize hact : Act.put _ (some 10) _ = act
              simp only [Act.put, List.setIfInBounds_toArray, List.set_cons_succ, List.set_cons_zero] at hact
              subst hact
              go_wp2
              go_ret
              exact ⟨rfl, BE.out⟩
          · have r1 : ¬ (i : Int) < (n : Int) := by omega
            obtain rfl : i = n := by omega
            have LB : Hid (isBytes (rowsK gen.toNat m zss i)) := rowsK_bytes _ _ HB.out i
            have BI := Lib.hid OW.out.in
            obtain ⟨l, hl⟩ : ∃ l, Hid (rowsK gen.toNat m zss i = l) := ⟨_, rfl⟩
            rw [hl.out] at LB BI
            have LL : Hid (l.length = 64 * N) := by unfold Hid; rw [← hl.out, rowsK_length, hN.out]
            clear OW hi HWV
            obtain ⟨W0, hW0⟩ : ∃ W0, W0 = wr := ⟨_, rfl⟩
            subst hW0
            go_wp2
            go_loopw [12, 11, 13, 14, 15] (fun iv atv _ _ _ wx => ∃ (j : Nat), j ≤ i ∧ iv = .int .i64 (j : Int) ∧ atv = .int .i64 ((cntK zss j : Nat) : Int) ∧ Below W0.heap.size W0 wx) (fun iv _ _ _ _ _ => i - (intOf iv).toNat)
            case atStart => exact ⟨0, Nat.zero_le _, rfl, rfl, Below.refl _ _⟩
            case round =>
              obtain ⟨j, hj, rfl, rfl, hbx⟩ := hrel
              have BX := Lib.hid hbx
              have BEX : Hid (Below B w wr) := BE.out.trans (hbx.mono SZ.out)
              have SZX : Hid (B ≤ wr.heap.size) := Nat.le_trans SZ.out hbx.size
              obtain ⟨A, hA⟩ : ∃ A, Hid (cntK zss j = A) := ⟨_, rfl⟩
              have A9 : A ≤ 9000 := by rw [← hA.out]; exact CK.out j hj
              rw [hA.out]
              clear hbx
              by_cases hlt : j < i
              · have r2 : (j : Int) < (i : Int) := by omega
                have hok := hall.out j hlt
                obtain ⟨g, rfl⟩ := Int.eq_ofNat_of_zero_le (show 0 ≤ gen by have := hok.2.1; omega)
                obtain ⟨qb, qo, pv, rfl, hcell, hpb, hpn, hqb⟩ := (HV.out.below BEX.out (Nat.le_of_eq hB.out)).part hn.out hlt
                have HC := Lib.hid hcell
                obtain ⟨rc, hrc⟩ : ∃ rc, Hid (rowAt zss j = rc) := ⟨_, rfl⟩
                rw [hrc.out] at hpb hok
                rw [hA.out] at hok
                obtain ⟨kn, hkn⟩ : ∃ kn, Hid (needN rc.length = kn) := ⟨_, rfl⟩
                have kn45 : kn ≤ 45 := by have := needN_le rc.length hok.1; rw [hkn.out] at this; exact this
                have kn1 : 1 ≤ kn := by have := needN_pos rc.length; rw [hkn.out] at this; exact this
                have hAN : A + kn ≤ N := by
                  have h := cntK_mono zss (show j + 1 ≤ i by omega)
                  rw [cntK, hrc.out, hA.out, hkn.out, hN.out] at h
                  exact h
                obtain ⟨rest, hrest⟩ := rowsK_drop ((g : Int)).toNat m zss i hlt
                rw [hl.out, hA.out, hrc.out, Int.toNat_natCast] at hrest
                obtain ⟨pb, po, cc, e9, hc9, hb9, hr9, -⟩ := (BI.out.below BX.out).at (by omega)
                obtain ⟨rfl, -, rfl⟩ := Value.slice.inj e9
                have HUP := Lib.hid (unp_pack (gen := g) (num := m + A) (rec := rc) (tail := rest) (n := N - A) hok (by rw [hkn.out]; omega))
                have LT : Hid (BlksIn wr (.slice (some ⟨pb, po + 64 * A, none⟩) (N - A) (vc - A)) (N - A) (packF g (m + A) rc ++ rest)) := by
                  have h := blks_tail (j := A) hr9 hb9 LL.out (by omega) hc9
                  rw [hrest] at h
                  exact h
                have LTB : Hid (isBytes (packF g (m + A) rc ++ rest)) := by unfold Hid; rw [← hrest]; exact bytes_drop LB.out _
                have HSL : Hid ((Instr.sliceAt 23 (.slice (some ⟨pb, po, none⟩) N vc) (some (.int .i64 (A : Int))) none none).run Tryd.prog wr = .ok (.slice (some ⟨pb, po + 64 * A, none⟩) (N - A) (vc - A)) wr) := run_blks_tail pb po N vc A (by omega) (by omega) wr
                have HCU := Lib.hid (unpack_ok (g : Int) ((m + A : Nat) : Int) _ (N - A) _ wr LT.out LTB.out (by omega) HUP.out.2.2 (HK.out.below BEX.out HKB.out))
                rw [HUP.out.2.1, HUP.out.1, hkn.out] at HCU
                have PB := Lib.hid hpb
                obtain ⟨pa, pc, e8, -⟩ := id PB.out
                subst e8
                have RCL : Hid (rc.length ≤ 4611686018427387904) := by unfold Hid; have := hok.1; omega
                clear hcell hpb hpn hqb hok e9 hb9 hr9 hrest LT LTB
                go_upto_region 17 with (fail)
                refine lin_begin (opsOf Tryd.f7 17) (by kernel_rfl) ?_
                refine lin_now 0 (.slice (some ⟨pb, po, none⟩) N vc) (some 61) (by kernel_rfl) (by kernel_rfl) (by kernel_rfl) ?_
                refine lin_now 1 (.int .i64 (A : Int)) (some 62) (by kernel_rfl) (by kernel_rfl) (by kernel_rfl) ?_
                refine lin_now 2 (.slice (some ⟨pb, po + 64 * A, none⟩) (N - A) (vc - A)) (some 63) (by kernel_rfl) (by kernel_rfl) (exec_of (Instr.sliceAt 23 (.slice (some ⟨pb, po, none⟩) N vc) (some (.int .i64 (A : Int))) none none) _ (by kernel_rfl) HSL.out) ?_
                refine lin_now 3 (.int .i64 (g : Int)) (some 64) (by kernel_rfl) (by kernel_rfl) (by kernel_rfl) ?_
                refine lin_now 4 (.int .i64 (m : Int)) (some 65) (by kernel_rfl) (by kernel_rfl) (by kernel_rfl) ?_
                refine lin_now 5 (.int .i64 (A : Int)) (some 66) (by kernel_rfl) (by kernel_rfl) (by kernel_rfl) ?_
                refine lin_now 6 (.int .i64 (IntKind.i64.wrap ((m : Int) + (A : Int)))) (some 67) (by kernel_rfl) (by kernel_rfl) (by kernel_rfl) ?_
                rw [show IntKind.i64.wrap ((m : Int) + (A : Int)) = ((m + A : Nat) : Int) from (IntWalk.i64_in _ (by omega)).trans (by omega)]
                refine lin_call 7 16 #[.slice (some ⟨pb, po + 64 * A, none⟩) (N - A) (vc - A), .int .i64 (g : Int), .int .i64 ((m + A : Nat) : Int)] (some 68) _ (by kernel_rfl) (by kernel_rfl) (by kernel_rfl) (HCU.out) ?_
                rintro e w5 ⟨v5, rfl, hv5, -, hb5⟩
                refine ⟨_, rfl, ?_⟩
                refine lin_now 8 (.tuple #[v5, .int .i64 (kn : Int), .bool true]) (some 60) (by kernel_rfl) (by kernel_rfl) (by kernel_rfl) ?_
                refine lin_now 9 (v5) (some 69) (by kernel_rfl) (by kernel_rfl) (by kernel_rfl) ?_
                refine lin_now 10 (.int .i64 (kn : Int)) (some 70) (by kernel_rfl) (by kernel_rfl) (by kernel_rfl) ?_
                refine lin_now 11 (.bool true) (some 71) (by kernel_rfl) (by kernel_rfl) (by kernel_rfl) ?_
                refine lin_now 12 (v5) (some 13) (by kernel_rfl) (by kernel_rfl) (by kernel_rfl) ?_
                refine lin_now 13 (.int .i64 (kn : Int)) (some 14) (by kernel_rfl) (by kernel_rfl) (by kernel_rfl) ?_
                refine lin_now 14 (.bool true) (some 15) (by kernel_rfl) (by kernel_rfl) (by kernel_rfl) ?_
                refine lin_done 15 (by kernel_rfl) ?_
                have V5 := Lib.hid hv5
                have BX5 : Hid (Below W0.heap.size W0 w5) := BX.out.trans (hb5.mono BX.out.size)
                have PB5 := Lib.hid (PB.out.below hb5 (Nat.le_refl _))
                have HC5 : Hid (w5.cell? ⟨qb, qo + j, none⟩ = some (.slice pa rc.length pc)) := (hb5.cell (p := ⟨qb, qo + j, none⟩) (block_lt_of_cell HC.out)).trans HC.out
                have HCS := Lib.hid (sameb_true v5 (.slice pa rc.length pc) rc w5 V5.out PB5.out RCL.out)
                clear hv5 hb5 BX PB HC HCU HSL BEX SZX
                generalize hact : Act.put _ (some 15) _ = act
                simp only [Act.put, List.setIfInBounds_toArray, List.set_cons_succ, List.set_cons_zero] at hact
                subst hact
                go_upto_region 18 with (fail)
                refine lin_begin (opsOf Tryd.f7 18) (by kernel_rfl) ?_
                refine lin_now 0 (.bool true) (some 72) (by kernel_rfl) (by kernel_rfl) (by kernel_rfl) ?_
                refine lin_now 1 (.bool false) (some 73) (by kernel_rfl) (by kernel_rfl) (by kernel_rfl) ?_
                refine lin_now 2 (.bool false) (some 74) (by kernel_rfl) (by kernel_rfl) (by kernel_rfl) ?_
                refine lin_now 3 (v5) (some 75) (by kernel_rfl) (by kernel_rfl) (by kernel_rfl) ?_
                refine lin_now 4 (.slice (some ⟨qb, qo, none⟩) i cap) (some 76) (by kernel_rfl) (by kernel_rfl) (by kernel_rfl) ?_
                refine lin_now 5 (.int .i64 (j : Int)) (some 77) (by kernel_rfl) (by kernel_rfl) (by kernel_rfl) ?_
                refine lin_now 6 (.pointer (some ⟨qb, qo + j, none⟩)) (some 78) (by kernel_rfl) (by kernel_rfl) (exec_indexAt 45 (.tmp 76) (.tmp 77) (by kernel_rfl) _ _ _ (by kernel_rfl) (by kernel_rfl) (run_at_part qb qo i cap j hlt w5)) ?_
                refine lin_now 7 (.slice pa rc.length pc) (some 79) (by kernel_rfl) (by kernel_rfl) (exec_load_cell 22 (.tmp 78) (by kernel_rfl) qb (qo + j) (by kernel_rfl) _ HC5.out _ Tryd.underlying22 rfl) ?_
                refine lin_call 8 13 #[v5, .slice pa rc.length pc] (some 80) _ (by kernel_rfl) (by kernel_rfl) (by kernel_rfl) (HCS.out) ?_
                rintro e w6 ⟨rfl, d6, rfl⟩
                refine ⟨_, rfl, ?_⟩
                refine lin_now 9 (.bool false) (some 81) (by kernel_rfl) (by kernel_rfl) (by kernel_rfl) ?_
                refine lin_now 10 (.bool false) (some 82) (by kernel_rfl) (by kernel_rfl) (by kernel_rfl) ?_
                refine lin_now 11 (.bool false) (some 83) (by kernel_rfl) (by kernel_rfl) (by kernel_rfl) ?_
                refine lin_now 12 (.int .i64 (kn : Int)) (some 84) (by kernel_rfl) (by kernel_rfl) (by kernel_rfl) ?_
                refine lin_now 13 (.bool (decide ((kn : Int) < 1))) (some 85) (by kernel_rfl) (by kernel_rfl) (by kernel_rfl) ?_
                rw [show decide ((kn : Int) < 1) = false from decide_eq_false (by omega)]
                refine lin_now 14 (.bool false) (some 86) (by kernel_rfl) (by kernel_rfl) (by kernel_rfl) ?_
                refine lin_done 15 (by kernel_rfl) ?_
                have BX6 : Hid (Below W0.heap.size W0 (w5.drewN d6)) := BX5.out.trans ((below_drewN w5 d6).mono BX5.out.size)
                have HNX : Hid (((cntK zss (j + 1) : Nat) : Int) = (A : Int) + (kn : Int)) := by unfold Hid; rw [cntK, hrc.out, hA.out, hkn.out]; omega
                clear BX5 V5 PB5 HC5 HCS
                generalize w5.drewN d6 = W6 at *
                generalize hact : Act.put _ (some 86) _ = act
                simp only [Act.put, List.setIfInBounds_toArray, List.set_cons_succ, List.set_cons_zero] at hact
                subst hact
                go_wp2
                exact ⟨⟨j + 1, by omega, by go_num, by rw [HNX.out], BX6.out⟩, by simp [intOf]; omega⟩
              · have r2 : ¬ (j : Int) < (i : Int) := by omega
                obtain rfl : j = i := by omega
                obtain rfl : A = N := by rw [← hA.out, ← hN.out]
                go_wp2
                go_ret
                exact ⟨rfl, BEX.out⟩
end Go.Proofs.YtaeghgnhpgkcdaaDoor
