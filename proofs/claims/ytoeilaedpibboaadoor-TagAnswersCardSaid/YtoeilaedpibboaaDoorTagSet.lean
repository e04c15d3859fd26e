/- package tag's Set and Texts. -/
import Derived.Test.YtoeilaedpibboaaDoorTagSrt
import Derived.Test.YtoeilaedpibboaaDoorTagFrm
namespace Go.Proofs.YtoeilaedpibboaaDoor
open Go.RowKit
set_option maxRecDepth 100000

theorem infoBytes3 : (Tryd.prog.info? 36).map (fun i => (i.zero, i.size, i.bytes)) = some (some (.slice none 0 0), 1, 24) := by kernel_rfl
/-- The digests of a block, each as a slice. -/
def digSlices (D : Nat) : Nat → List Value
  | 0 => []
  | k + 1 => digSlices D k ++ [.slice (some ⟨D, 32 * k, none⟩) 32 32]
theorem digSlices_length (D k : Nat) : (digSlices D k).length = k := by
  induction k with
  | zero => rfl
  | succ k ih => simp [digSlices, ih]
theorem digSlices_get (D k i : Nat) (h : i < k) : (digSlices D k)[i]? = some (.slice (some ⟨D, 32 * i, none⟩) 32 32) := by
  induction k with
  | zero => omega
  | succ k ih =>
    by_cases e : i < k
    · rw [digSlices, List.getElem?_append_left (by rw [digSlices_length]; exact e)]; exact ih e
    · have : i = k := by omega
      subst this
      rw [digSlices, List.getElem?_append_right (by rw [digSlices_length]; omega), digSlices_length]; simp
theorem set_fill (l : List Value) (m : Nat) (z v : Value) : (l ++ List.replicate (m + 1) z).set l.length v = (l ++ [v]) ++ List.replicate m z := by
  rw [List.set_append_right _ _ (Nat.le_refl _)]
  simp [List.replicate_succ]
theorem parts_digs {w : World} {P D : Nat} {rl : List (List Int)} {rest : List Value} (hP : Blk w P 36 (digSlices D rl.length)) (hD : Dg w D 24 rl rest) (h32 : all32 rl) (hl : rl.length ≤ 1000) : PartsIn w (.slice (some ⟨P, 0, none⟩) rl.length rl.length) rl := by
  refine ⟨some ⟨P, 0, none⟩, rl.length, digSlices D rl.length, rfl, digSlices_length _ _, by omega, fun _ => ⟨P, 0, rfl, hP.lt, hP.whole⟩, fun k v zs hv hz => ?_⟩
  have hk : k < rl.length := (List.getElem?_eq_some_iff.1 hz).1
  rw [digSlices_get _ _ _ hk] at hv
  obtain rfl := Option.some.inj hv
  have hzl : zs.length = 32 := h32 zs (List.mem_of_getElem? hz)
  exact ⟨⟨some ⟨D, 32 * k, none⟩, 32, by rw [hzl], by omega, fun _ => ⟨D, 32 * k, rfl, Blk.lt hD, hD.range h32 hz⟩⟩, trivial, by omega⟩
set_option maxHeartbeats 1000000 in
theorem tset_walk (kind : Int) (u : Value) (ds : List (List Int)) (n j : Nat) (w : World) (hu : DigsIn w u ds) (hn : ds.length = n) (h0 : 1 ≤ n) (hl : n ≤ 12) (hok : okD ds) (hj1 : 1 ≤ j) (hjn : j ≤ n)
    (hdist : ∀ i, 1 ≤ i → i < j → (isortTo ds (n - 1)).getD i [] ≠ (isortTo ds (n - 1)).getD (i - 1) []) (hend : j = n ∨ (j + 1 = n ∧ (isortTo ds (n - 1)).getD j [] = (isortTo ds (n - 1)).getD (j - 1) [])) (hK : KW w) :
    Calls Tryd.prog 16 #[.int .u8 kind, u] w fun e w' => e = .returned (.agg (ints .u8 (nodeL kind ((isortTo ds (n - 1)).take j))).toArray) ∧ Below w.heap.size w w' := by
  have hst := fun w1 (hb : Below w.heap.size w w1) => tsort_walk u ds n j w1 (by
    obtain ⟨a, c, h1, h2⟩ := hu
    refine ⟨a, c, h1, fun hp => ?_⟩
    obtain ⟨pb, po, h3, h4, h5⟩ := h2 hp
    exact ⟨pb, po, h3, Nat.lt_of_lt_of_le h4 hb.size, fun j v hv => by rw [hb.cell (p := ⟨pb, po + j, none⟩) h4]; exact h5 j v hv⟩) hn h0 hl hok hj1 hjn hdist hend
  have HST := Lib.hid hst
  have h32 : okD ((isortTo ds (n - 1)).take j) := fun d hd => (hok.isortTo (n - 1) (by rw [hn]; omega)) d (List.mem_of_mem_take hd)
  have hrl : ((isortTo ds (n - 1)).take j).length = j := by rw [List.length_take, isortTo_length, hn]; omega
  have HK := Lib.hid hK
  obtain ⟨a, c, rfl, -⟩ := id hu
  clear hst hu hok hdist hend hK
  obtain ⟨rl, hr⟩ : ∃ rl, Hid ((isortTo ds (n - 1)).take j = rl) := ⟨_, rfl⟩
  rw [hr.out] at HST h32 hrl ⊢
  have H32 := Lib.hid h32
  have HRL := Lib.hid hrl
  clear h32 hrl
  have HFL : Hid (rl.flatten.length ≤ 1000000) := by unfold Hid; rw [flat32_length H32.out.a, HRL.out]; omega
  rw [hn] at HST ⊢
  clear hn
  go_enter Tryd.func16, Tryd.ntmps16
  go_wp2_with fail
  refine (HST.out _ ((Below.refl _ _).alloc (Nat.le_refl _) _)).mono ?_
  rintro e w1 ⟨D, cap, rest, rfl, hD, -, hdg, hb1⟩
  rw [HRL.out]
  have R1 : Hid (Blk w1 w.heap.size 24 (ints .u8 (List.replicate 32 0))) := (Blk.new2 w _ _ _ _ rfl (by kernel_rfl)).below hb1 (by simp)
  have HB1 : Hid (Below w.heap.size w w1) := ((Below.refl _ _).alloc (Nat.le_refl _) _).trans (hb1.mono (by simp))
  have HDG := Lib.hid hdg
  have hDw : w.heap.size < D := by have : (w.alloc _).heap.size ≤ D := hD; simp at this; omega
  clear hD hdg hb1 HST
  go_wp2_with (refine wpList_make_blk _ rfl _ _ 38 rfl 36 (.slice none 0 0) 24 Tryd.underlying38 infoBytes3 rfl _ _ _ _ j rfl rfl rfl rfl (by omega) (by omega) ?_)
  intro w2 hb2 hbe2 hsz2
  obtain ⟨P, hP⟩ : ∃ P, P = w1.heap.size := ⟨_, rfl⟩
  rw [← hP] at hb2 ⊢
  have hDP : D < P := by have := Blk.lt HDG.out; omega
  have P2 : Hid (Blk w2 P 36 (digSlices D 0 ++ List.replicate (j - 0) (.slice none 0 0))) := hb2
  have R2 := Lib.hid (R1.out.below hbe2 R1.out.lt)
  have HB2 := Lib.hid (HB1.out.trans (hbe2.mono HB1.out.size))
  have DG2 := Lib.hid (HDG.out.below hbe2 (Blk.lt HDG.out))
  clear hb2 hbe2 hsz2 hP R1 HB1 HDG
  have hat := fun k (hk : k < j) w => run_at_digest D 0 j cap k hk w
  have HAT := Lib.hid hat
  clear hat
  go_wp2
  go_loopw [15, 7] (fun i _ wr => ∃ k : Nat, k ≤ j ∧ i = .int .i64 k ∧ Blk wr P 36 (digSlices D k ++ List.replicate (j - k) (.slice none 0 0)) ∧ Upd P w2 wr) (fun i _ _ => j - (intOf i).toNat)
  case atStart => exact ⟨0, by omega, rfl, P2.out, Upd.refl _ _⟩
  case round =>
    obtain ⟨k, hk, rfl, hPb, hU⟩ := hrel
    by_cases hlt : k < j
    · have q1 : (k : Int) < (j : Int) := by omega
      have ha := fun w => HAT.out k hlt w
      rw [Nat.zero_add] at ha
      have hlen : (digSlices D k ++ List.replicate (j - k) (Value.slice none 0 0)).length = j := by rw [List.length_append, digSlices_length, List.length_replicate]; omega
      have cP := hPb.cell (j := k) (v := .slice none 0 0) (by rw [List.getElem?_append_right (by rw [digSlices_length]; omega), digSlices_length, List.getElem?_replicate, if_pos (by omega)])
      have fP := hPb.free k
      have HP := Lib.hid hPb
      have HU := Lib.hid hU
      clear hPb hU hlen P2
      go_wp2
      go_roundw
      case rel =>
        refine ⟨k + 1, by omega, by go_num, ?_, HU.out.setCell k _⟩
        have h1 := HP.out.set k (.slice (some ⟨D, 32 * k, none⟩) 32 32)
        have h2 := set_fill (digSlices D k) (j - (k + 1)) (.slice none 0 0) (.slice (some ⟨D, 32 * k, none⟩) 32 32)
        rw [digSlices_length, show j - (k + 1) + 1 = j - k by omega] at h2
        rw [h2] at h1
        exact h1
      case measure => simp [intOf]; omega
    · have q1 : ¬ (k : Int) < (j : Int) := by omega
      have HP : Hid (Blk wr P 36 (digSlices D rl.length)) := by
        have e : k = j := by omega
        subst e
        unfold Hid
        rw [HRL.out]
        simpa using hPb
      have R3 := Lib.hid (hU.blk R2.out (by omega))
      have HB3 := Lib.hid (hU.below HB2.out (by omega) HB2.out.size)
      have DG3 := Lib.hid (DG2.out.upd hU (by omega))
      have HPI : Hid (PartsIn wr (.slice (some ⟨P, 0, none⟩) j j) rl) := by
        have := parts_digs HP.out DG3.out H32.out.a (by rw [HRL.out]; omega)
        rw [HRL.out] at this
        exact this
      have KW3 := Lib.hid (HK.out.below HB3.out HK.out.lt)
      clear hPb hU P2 R2 HB2 DG2
      go_wp2_with fail
      refine (node_walk kind _ rl _ HPI.out (by rw [HRL.out]; omega) HFL.out KW3.out).mono ?_
      rintro e w4 ⟨rfl, hb4⟩
      have R4 := Lib.hid (R3.out.below hb4 R3.out.lt)
      have HB4 := Lib.hid (HB3.out.trans (hb4.mono HB3.out.size))
      clear hb4 R3 HB3 KW3 HPI HP DG3
      obtain ⟨res, hres⟩ : ∃ r, Hid (nodeL kind rl = r) := ⟨_, rfl⟩
      have HRS : Hid (res.length = 32) := by unfold Hid; rw [← hres.out]; exact nodeL_length _ _
      rw [hres.out]
      have HI : Hid ((Tryd.prog.info? 24).map (·.size) = some (ints .u8 res).length) := by unfold Hid; rw [ints_length, HRS.out]; exact infoDigest
      have HI' : Hid ((Tryd.prog.info? 24).map (·.size) = some (ints .u8 res).toArray.size) := by unfold Hid; rw [List.size_toArray, ints_length, HRS.out]; exact infoDigest
      have HL : Hid ((ints .u8 res).length = (ints .u8 (List.replicate 32 0)).length) := by unfold Hid; rw [ints_length, HRS.out, ints_length, List.length_replicate]
      go_wp2_with (refine wpList_store_whole rfl 24 _ _ rfl w.heap.size (ints .u8 res) rfl rfl 24 (ints .u8 (List.replicate 32 0)) R4.out HL.out HI.out (ints_oneCell _ _) ?_)
      intro w5 hb5 hup5 _
      refine wpList_nil ?_
      go_wp2
      have hbl := hup5.below HB4.out (Nat.le_refl _) HB4.out.size
      refine bodyPost_ret (v := .agg (ints .u8 res).toArray) ?_ rfl ⟨by rw [hres.out], hbl⟩
      refine results_cell_row (g := w.heap.size) (t := 24) (cs := (ints .u8 res).toArray) (fr := (0, 0)) Tryd.results16 _ _ _ ?_ ?_ Tryd.underlying24 rfl HI'.out
      · rfl
      · exact hb5
end Go.Proofs.YtoeilaedpibboaaDoor
