/- TagFrames answers true. -/
import Derived.Test.YtmaobmeaanafcaaDoorTagRfr
import Derived.Test.YtmaobmeaanafcaaDoorTagNod
import Derived.Laws.BytesArg
namespace Go.Proofs.YtmaobmeaanafcaaDoor
open Go Go.RowKit
set_option maxRecDepth 100000

theorem strInts_of (zs : List Int) (hb : isBytes zs) : strInts (strOfNums zs) = zs := by
  unfold strInts
  rw [strOfNums_data, List.map_map]
  conv => rhs; rw [← List.map_id zs]
  refine List.map_congr_left fun z hz => ?_
  have := hb z hz
  simp only [Function.comp, UInt8.toNat_ofNat', id]
  omega
theorem run_convert_zero {P : Program} (w : World) (src e : TypeId) (hs : P.underlying src = some (.slice e)) (he : P.underlying e = some (.int .u8)) (p : Option Addr) (c : Nat) :
    ∀ dst, P.underlying dst = some .string → (convert src dst (.slice p 0 c)).run P w = .ok (.string ByteArray.empty) w := by
  intro dst hd
  rw [run_convert_bytes_string w src dst e _ 0 c hs he hd]
  cases p <;> simp [Conv.bytesToString, loadCells]
  all_goals rfl
theorem run_bytes_str (v : Value) (zs : List Int) (w : World) (h : BytesIn w v zs) : (convert 37 9 v).run Tryd.prog w = .ok (.string (strOfNums zs)) w := by
  obtain ⟨a, c, rfl, -, hp⟩ := h
  by_cases h0 : 0 < zs.length
  · obtain ⟨pb, po, rfl, _, hr⟩ := hp h0
    exact run_convert_bytes_arg w 37 5 Tryd.underlying37 Tryd.underlying5 pb po _ c zs rfl (fun i hi => hr i _ (ints_getD hi)) 9 Tryd.underlying9
  · have e : zs = [] := List.eq_nil_of_length_eq_zero (by omega)
    subst e
    exact run_convert_zero w 37 5 Tryd.underlying37 Tryd.underlying5 a c 9 Tryd.underlying9
theorem infoStr3 : (Tryd.prog.info? 9).map (fun i => (i.zero, i.size, i.bytes)) = some (some (.string ⟨#[]⟩), 1, 16) := by kernel_rfl
def strVals (zss : List (List Int)) : List Value := zss.map fun zs => .string (strOfNums zs)
theorem strVals_length (zss : List (List Int)) : (strVals zss).length = zss.length := by simp [strVals]
theorem strs_of_owns {w : World} {base : Nat} {v : Value} {zss : List (List Int)} (h : w.ownsRow base 9 1 v zss.length (strVals zss)) : StrsIn w v (zss.map strOfNums) := by
  obtain ⟨_, h2⟩ := h
  rcases h2 with ⟨rfl, h0⟩ | ⟨g, cap, cur, rfl, _, hg, _, _, _, ht⟩
  · exact ⟨none, 0, by simp [h0], fun h => absurd h (by rw [List.length_map]; omega)⟩
  · refine ⟨some ⟨g, 0, none⟩, cap, by simp, fun _ => ⟨g, 0, rfl, (Array.getElem?_eq_some_iff.1 hg).1, fun j v hv => ?_⟩⟩
    rw [cell_of_row w g (0 + j) cur 9 (0, 0) hg, Nat.zero_add]
    have e : (zss.map strOfNums).map Value.string = strVals zss := by simp [strVals]
    rw [e, ← ht, List.getElem?_take] at hv
    split at hv
    · simpa using hv
    · cases hv
structure Fm (A : List (List Int)) (va fv lv tv : Value) (w wr : World) : Prop where
  pa : PartsIn wr va A
  f : BytesIn wr fv (frameL A)
  l : PartsIn wr lv A
  t : StrsIn wr tv (A.map strOfNums)
  bel : Below w.heap.size w wr
theorem Fm.next {A : List (List Int)} {va fv lv tv : Value} {w w1 w2 : World} (t : Fm A va fv lv tv w w1) (hb : Below w1.heap.size w1 w2) : Fm A va fv lv tv w w2 :=
  ⟨t.pa.below hb (Nat.le_refl _), t.f.below hb (Nat.le_refl _), t.l.below hb (Nat.le_refl _), t.t.next hb, t.bel.trans (hb.mono t.bel.size)⟩
set_option maxHeartbeats 2000000 in
theorem frames_main (va : Value) (A : List (List Int)) (kind : Int) (w : World) (ha : PartsIn w va A) (hba : ∀ zs ∈ A, isBytes zs) (hK : KW w) :
    Calls Tryd.prog 4 #[va, .int .u8 kind] w fun e w' => e = .returned (.bool true) ∧ Below w.heap.size w w' := by
  obtain ⟨aa, ca, psa, rfl, hps, -, hq, hall⟩ := id ha
  have HA := Lib.hid ha
  have HK := Lib.hid hK
  obtain ⟨ma, hma⟩ : ∃ m, Hid (A.length = m) := ⟨_, rfl⟩
  rw [hma.out] at HA hps hq ⊢
  have HPS := Lib.hid hps
  have HQ := Lib.hid hq
  have HALL := Lib.hid hall
  have HBA := Lib.hid hba
  clear ha hK hps hq hall hba
  obtain ⟨i0, hi, hz0, hz1, hz2⟩ := info_parts infoStr3
  have HI := Lib.hid hi
  have HZ0 := Lib.hid hz0
  have HZ1 := Lib.hid hz1
  have HZ2 := Lib.hid hz2
  clear hi hz0 hz1 hz2
  go_enter Tryd.func4, Tryd.ntmps4
  go_wp2_with fail
  refine (talive_walk _ HK.out).mono ?_
  rintro e w1 ⟨rfl, hb1⟩
  have BEL1 := Lib.hid hb1
  clear hb1
  go_wp2_with fail
  refine (rowst_walk _ A _ (HA.out.below BEL1.out (Nat.le_refl _))).mono ?_
  rintro e w2 ⟨r, rfl, hr, rfl⟩
  have HR := Lib.hid hr
  clear hr
  by_cases hr1 : r ≤ 1500
  · have q1 : ¬ ((1500 : Int) < (r : Int)) := by omega
    have la : A.flatten.length ≤ 1500 ∧ A.length ≤ 1500 := by have := HR.out hr1; omega
    have LA := Lib.hid la
    have hmb : ma ≤ 1500 := by rw [hma.out] at la; omega
    clear la
    have hall2 : ∀ zs ∈ A, zs.length < 4294967296 := fun zs hz => by
      have := (List.sublist_flatten_of_mem hz).length_le
      have := LA.out
      omega
    have HUF := Lib.hid (unframe_frame A (by have := LA.out; omega) hall2)
    have HFB := Lib.hid (frameL_bytes A (by have := LA.out; omega) (fun zs hz => ⟨hall2 zs hz, HBA.out zs hz⟩))
    have HFL : Hid ((frameL A).length ≤ 10000) := by have := LA.out; unfold Hid; rw [frameL_length]; omega
    clear hall2
    go_wp2_with fail
    refine (frame_walk _ A _ (HA.out.below BEL1.out (Nat.le_refl _)) (by have := LA.out; omega) (by have := LA.out; omega)).mono ?_
    rintro e w3 ⟨fv, rfl, hx, hb3⟩
    obtain ⟨fa, fc, rfl, -⟩ := id (owns_bytes hx)
    have BEL3 := Lib.hid (BEL1.out.trans (hb3.mono BEL1.out.size))
    have X3 := Lib.hid (owns_bytes hx)
    clear hx hb3 BEL1
    obtain ⟨mx, hmx⟩ : ∃ m, Hid ((frameL A).length = m) := ⟨_, rfl⟩
    rw [hmx.out] at X3 ⊢
    have HUN := Lib.hid (unframe_walk _ (frameL A) _ X3.out HFB.out (by have := HFL.out; omega))
    rw [HUF.out] at HUN
    go_wp2_with fail
    refine HUN.out.mono ?_
    rintro e w4 ⟨lv, rfl, hlv, hb4⟩
    have BEL4 := Lib.hid (BEL3.out.trans (hb4.mono BEL3.out.size))
    have X4 := Lib.hid (X3.out.below hb4 (Nat.le_refl _))
    have L4 := Lib.hid hlv
    clear hlv hb4 BEL3 X3 HUN
    go_wp2
    go_loopw [8, 9] (fun tv i wr => ∃ k : Nat, k ≤ ma ∧ i = .int .i64 k ∧ wr.ownsRow w4.heap.size 9 1 tv k (strVals (A.take k)) ∧ Below w4.heap.size w4 wr) (fun _ i _ => ma - (intOf i).toNat)
    case atStart => exact ⟨0, by omega, rfl, World.ownsRow_made _ #[] 0 (Nat.le_refl _) (by unfold maxLen; omega) rfl, (Below.refl _ _).alloc (Nat.le_refl _) _⟩
    case round =>
      obtain ⟨k, hk, rfl, hown, hbel⟩ := hrel
      have HO := Lib.hid hown
      have HB := Lib.hid hbel
      clear hown hbel
      have BELR := Lib.hid (BEL4.out.trans (HB.out.mono BEL4.out.size))
      by_cases hlt : k < ma
      · obtain ⟨qb, qo, rfl, hq2, hq3⟩ := HQ.out (by omega)
        obtain ⟨v, hvk⟩ : ∃ v, psa[k]? = some v := ⟨_, List.getElem?_eq_getElem (by rw [HPS.out]; exact hlt)⟩
        obtain ⟨zs, hzk⟩ : ∃ zs, A[k]? = some zs := ⟨_, List.getElem?_eq_getElem (by rw [hma.out]; exact hlt)⟩
        obtain ⟨hby, -, -⟩ := HALL.out k v zs hvk hzk
        obtain ⟨sa, c, rfl, -⟩ := id hby
        have cq : wr.cell? ⟨qb, qo + k, none⟩ = _ := (BELR.out.cell (p := ⟨qb, qo + k, none⟩) hq2).trans (hq3 k _ hvk)
        have q2 : (k : Int) < (ma : Int) := by omega
        have HCV : Hid ((convert 37 9 (.slice sa zs.length c)).run Tryd.prog wr = .ok (.string (strOfNums zs)) wr) := run_bytes_str _ zs wr (hby.below BELR.out (Nat.le_refl _))
        have HNX : Hid (strVals (A.take (k + 1)) = strVals (A.take k) ++ [.string (strOfNums zs)]) := by
          unfold Hid strVals
          rw [List.take_add_one, hzk]
          simp
        clear hby hvk hzk hq3
        obtain ⟨s, hs⟩ : ∃ s, Hid (strOfNums zs = s) := ⟨_, rfl⟩
        rw [hs.out] at HCV HNX
        have hcv := HCV.out
        clear HCV
        have OW5 : Hid ((wr.alloc (.cells #[.string s] 9)).ownsRow w4.heap.size 9 1 _ k (strVals (A.take k))) := HO.out.alloc _
        have HM1 : Hid (k + 1 ≤ maxLen) := by unfold Hid maxLen; omega
        have HM2 : Hid ((k + 1) * 16 ≤ 140737488355328) := by unfold Hid; omega
        have HSZ5 : Hid (w4.heap.size ≤ (wr.alloc (.cells #[.string s] 9)).heap.size) := by have := HB.out.size; unfold Hid; simp; omega
        have HC5 : Hid (∀ j u, [Value.string s][j]? = some u → (wr.alloc (.cells #[.string s] 9)).cell? ((⟨wr.heap.size, 0, none⟩ : Addr).add j) = some u) := fun j u hj => by
          cases j with
          | zero => simp at hj; subst hj; simp [Addr.add]
          | succ j => simp at hj
        have HO5 : Hid (∀ u ∈ [Value.string s], u.oneCell' = true) := fun u hu => by simp at hu; subst hu; rfl
        go_wp2_with (with_reducible refine wpList_append_lies _ (o := ⟨some 36, _, _, _, _, _⟩) ?d1 (.tmp 29) (.tmp 35) 41 ?d2 w4.heap.size 9 i0 _ 1 16 Tryd.underlying41 HI.out HZ0.out HZ1.out HZ2.out ?d3 ?d4 _ k (strVals (A.take k)) ?d5 OW5.out ⟨wr.heap.size, 0, none⟩ 1 1 [.string s] ?d6 ?d7 HC5.out HO5.out ?d8 HM1.out HM2.out HSZ5.out _ rfl ?_)
        case d1 => rfl
        case d2 => rfl
        all_goals try (case d3 => rfl)
        all_goals try (case d4 => decide)
        all_goals try (case d5 => rfl)
        all_goals try (case d6 => rfl)
        all_goals try (case d7 => rfl)
        all_goals try (case d8 => decide)
        intro g' cap' w6 ho6 hg6 hat6 hlt6
        have HB6 : Hid (Below w4.heap.size w4 w6) := (HB.out.alloc HB.out.size _).grown hg6 HSZ5.out (fun j hj => by have := (OW5.out.lt j hj).1; omega)
        have HO6 : Hid (w6.ownsRow w4.heap.size 9 1 (.slice (some ⟨g', 0, none⟩) (k + 1) cap') (k + 1) (strVals (A.take (k + 1)))) := by unfold Hid; rw [HNX.out]; exact ho6
        clear ho6 hg6 hat6 hlt6 OW5 HC5 HB HO HSZ5
        go_wp2
        exact ⟨⟨k + 1, by omega, by go_num, HO6.out, HB6.out⟩, by simp [intOf]; omega⟩
      · have q2 : ¬ (k : Int) < (ma : Int) := by omega
        have FM : Hid (Fm A (.slice aa ma ca) (.slice fa mx fc) lv u8 w wr) := by
          refine ⟨HA.out.below BELR.out (Nat.le_refl _), X4.out.below HB.out (Nat.le_refl _), L4.out.below HB.out (Nat.le_refl _), strs_of_owns (base := w4.heap.size) ?_, BELR.out⟩
          have h1 := HO.out
          have e : k = A.length := by have := hma.out; omega
          rw [e, List.take_length] at h1
          exact h1
        clear HO HB BELR
        have KWR := Lib.hid (HK.out.below FM.out.bel HK.out.lt)
        have HTI : Hid ((A.map strOfNums).map strInts = A) := by
          unfold Hid
          rw [List.map_map]
          conv => rhs; rw [← List.map_id A]
          exact List.map_congr_left fun zs hz => strInts_of zs (HBA.out zs hz)
        go_upto_region 12 with (fail)
        refine lin_begin (opsOf Tryd.f4 12) (by kernel_rfl) ?_
        refine lin_now 0 (.bool true) (some 37) (by kernel_rfl) (by kernel_rfl) (by kernel_rfl) ?_
        refine lin_now 1 (.bool true) (some 38) (by kernel_rfl) (by kernel_rfl) (by kernel_rfl) ?_
        refine lin_now 2 lv (some 39) (by kernel_rfl) (by kernel_rfl) (by kernel_rfl) ?_
        refine lin_now 3 (.slice aa ma ca) (some 40) (by kernel_rfl) (by kernel_rfl) (by kernel_rfl) ?_
        refine lin_call 4 25 #[lv, .slice aa ma ca] (some 41) _ (by kernel_rfl) (by kernel_rfl) (by kernel_rfl) (same_walk _ _ A A _ FM.out.l FM.out.pa) ?_
        rintro e w7 ⟨rfl, n7, rfl⟩
        refine ⟨_, rfl, ?_⟩
        rw [show decide (A = A) = true from decide_eq_true rfl]
        have FM7 := Lib.hid (FM.out.next (below_drewN wr n7))
        clear FM KWR
        generalize wr.drewN n7 = w7 at FM7 ⊢
        refine lin_now 5 (.bool true) (some 42) (by kernel_rfl) (by kernel_rfl) (by kernel_rfl) ?_
        refine lin_now 6 (.bool true) (some 43) (by kernel_rfl) (by kernel_rfl) (by kernel_rfl) ?_
        refine lin_now 7 (.slice fa mx fc) (some 44) (by kernel_rfl) (by kernel_rfl) (by kernel_rfl) ?_
        refine lin_now 8 (.slice aa ma ca) (some 45) (by kernel_rfl) (by kernel_rfl) (by kernel_rfl) ?_
        refine lin_call 9 27 #[.slice aa ma ca] (some 46) _ (by kernel_rfl) (by kernel_rfl) (by kernel_rfl) (rframe_walk _ A _ FM7.out.pa (by have := LA.out; omega) (by have := LA.out; omega)) ?_
        rintro e w8 ⟨rv, rfl, hrv, hb8⟩
        refine ⟨_, rfl, ?_⟩
        have FM8 := Lib.hid (FM7.out.next hb8)
        have RV8 := Lib.hid (owns_bytes hrv)
        clear hb8 FM7 hrv
        refine lin_call 10 26 #[.slice fa mx fc, rv] (some 47) _ (by kernel_rfl) (by kernel_rfl) (by kernel_rfl) (sameb_walk _ _ (frameL A) (frameL A) _ FM8.out.f RV8.out (by have := HFL.out; omega)) ?_
        rintro e w9 ⟨rfl, n9, rfl⟩
        refine ⟨_, rfl, ?_⟩
        rw [show decide (frameL A = frameL A) = true from decide_eq_true rfl]
        have FM9 := Lib.hid (FM8.out.next (below_drewN w8 n9))
        clear FM8 RV8
        generalize w8.drewN n9 = w9 at FM9 ⊢
        have KW9 := Lib.hid (HK.out.below FM9.out.bel HK.out.lt)
        refine lin_now 11 (.bool true) (some 48) (by kernel_rfl) (by kernel_rfl) (by kernel_rfl) ?_
        refine lin_now 12 (.bool true) (some 49) (by kernel_rfl) (by kernel_rfl) (by kernel_rfl) ?_
        refine lin_now 13 (.int .u8 kind) (some 50) (by kernel_rfl) (by kernel_rfl) (by kernel_rfl) ?_
        refine lin_now 14 (.slice aa ma ca) (some 51) (by kernel_rfl) (by kernel_rfl) (by kernel_rfl) ?_
        refine lin_call 15 28 #[.int .u8 kind, .slice aa ma ca] (some 52) _ (by kernel_rfl) (by kernel_rfl) (by kernel_rfl) (node_walk kind _ A _ FM9.out.pa (by have := LA.out; omega) (by have := LA.out; omega) KW9.out) ?_
        rintro e w10 ⟨rfl, hb10⟩
        refine ⟨_, rfl, ?_⟩
        have FM10 := Lib.hid (FM9.out.next hb10)
        clear hb10 FM9 KW9
        refine lin_now 16 (.int .u8 kind) (some 53) (by kernel_rfl) (by kernel_rfl) (by kernel_rfl) ?_
        refine lin_now 17 (.slice aa ma ca) (some 54) (by kernel_rfl) (by kernel_rfl) (by kernel_rfl) ?_
        refine lin_call 18 29 #[.int .u8 kind, .slice aa ma ca] (some 55) _ (by kernel_rfl) (by kernel_rfl) (by kernel_rfl) (rnode_walk kind _ A _ FM10.out.pa (by have := LA.out; omega) (by have := LA.out; omega)) ?_
        rintro e w11 ⟨rfl, hb11⟩
        refine ⟨_, rfl, ?_⟩
        have FM11 := Lib.hid (FM10.out.next hb11)
        clear hb11 FM10
        have KW11 := Lib.hid (HK.out.below FM11.out.bel HK.out.lt)
        have HTX := Lib.hid (texts_walk kind _ (A.map strOfNums) w11 FM11.out.t (by have := LA.out; rw [List.length_map]; omega) (by rw [HTI.out]; have := LA.out; omega) KW11.out)
        rw [HTI.out] at HTX
        have HND := Lib.hid (fun (w : World) (h : PartsIn w (.slice aa ma ca) A) (hk : KW w) => node_walk kind (.slice aa ma ca) A w h (by have := LA.out; omega) (by have := LA.out; omega) hk)
        have HNL := Lib.hid (nodeL_length kind A)
        generalize nodeL kind A = nd at HNL HTX HND ⊢
        refine lin_now 19 (.bool (decide (nd = nd))) (some 56) (by kernel_rfl) (by kernel_rfl) (exec_eql _ (.tmp 52) (.tmp 55) 24 (by kernel_rfl) Tryd.underlying24 Tryd.underlying5 sizeByte guardDigest nd nd HNL.out HNL.out (by kernel_rfl) (by kernel_rfl)) ?_
        rw [show decide (nd = nd) = true from decide_eq_true rfl]
        refine lin_now 20 (.bool true) (some 57) (by kernel_rfl) (by kernel_rfl) (by kernel_rfl) ?_
        refine lin_now 21 (.bool true) (some 58) (by kernel_rfl) (by kernel_rfl) (by kernel_rfl) ?_
        refine lin_now 22 (.int .u8 kind) (some 59) (by kernel_rfl) (by kernel_rfl) (by kernel_rfl) ?_
        refine lin_now 23 u8 (some 60) (by kernel_rfl) (by kernel_rfl) (by kernel_rfl) ?_
        refine lin_call 24 30 #[.int .u8 kind, u8] (some 61) _ (by kernel_rfl) (by kernel_rfl) (by kernel_rfl) HTX.out ?_
        rintro e w12 ⟨rfl, hb12⟩
        refine ⟨_, rfl, ?_⟩
        have FM12 := Lib.hid (FM11.out.next hb12)
        clear hb12 FM11 KW11 HTX
        have KW12 := Lib.hid (HK.out.below FM12.out.bel HK.out.lt)
        refine lin_now 25 (.int .u8 kind) (some 62) (by kernel_rfl) (by kernel_rfl) (by kernel_rfl) ?_
        refine lin_now 26 (.slice aa ma ca) (some 63) (by kernel_rfl) (by kernel_rfl) (by kernel_rfl) ?_
        refine lin_call 27 28 #[.int .u8 kind, .slice aa ma ca] (some 64) _ (by kernel_rfl) (by kernel_rfl) (by kernel_rfl) (HND.out _ FM12.out.pa KW12.out) ?_
        rintro e w13 ⟨rfl, hb13⟩
        refine ⟨_, rfl, ?_⟩
        have FM13 := Lib.hid (FM12.out.next hb13)
        clear hb13 FM12 KW12
        refine lin_now 28 (.bool (decide (nd = nd))) (some 65) (by kernel_rfl) (by kernel_rfl) (exec_eql _ (.tmp 61) (.tmp 64) 24 (by kernel_rfl) Tryd.underlying24 Tryd.underlying5 sizeByte guardDigest nd nd HNL.out HNL.out (by kernel_rfl) (by kernel_rfl)) ?_
        rw [show decide (nd = nd) = true from decide_eq_true rfl]
        refine lin_now 29 (.bool true) (some 66) (by kernel_rfl) (by kernel_rfl) (by kernel_rfl) ?_
        refine lin_now 30 (.bool true) (some 4) (by kernel_rfl) (by kernel_rfl) (by kernel_rfl) ?_
        refine lin_done 31 (by kernel_rfl) ?_
        have BELF := Lib.hid FM13.out.bel
        clear FM13
        generalize hact : Act.put _ (some 4) (.bool true) = act
        have h0 : act.tmps.getD 4 undef = .bool true := by rw [← hact]; kernel_rfl
        have hd : act.defers = [] := by rw [← hact]; kernel_rfl
        clear hact
        go_wp2
        refine bodyPost_ret (v := .bool true) ?_ hd ⟨rfl, BELF.out⟩
        rw [results_tmp Tryd.results4, h0]
  · have q1 : (1500 : Int) < (r : Int) := by omega
    go_wp2
    go_ret
    exact ⟨rfl, BEL1.out⟩
end Go.Proofs.YtmaobmeaanafcaaDoor
