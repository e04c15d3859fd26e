/- The statements' alive, of layer 2, answers true. -/
import Derived.Test.YtoeilaedpibboaaDoorTagTxt
import Derived.Test.YtoeilaedpibboaaDoorTagFhx
import Derived.Test.YtoeilaedpibboaaDoorTagMath
import Derived.Test.YtoeilaedpibboaaDoorTagGrp
namespace Go.Proofs.YtoeilaedpibboaaDoor
open Go.RowKit
set_option maxRecDepth 100000

def dD : List Int := 1 :: 255 :: List.replicate 30 0
def dA : List Int := 1 :: List.replicate 31 0
def dB : List Int := 2 :: List.replicate 31 0
theorem dD_ok : dD.length = 32 ∧ isBytes dD := ⟨rfl, by unfold isBytes; decide⟩
theorem dA_ok : dA.length = 32 ∧ isBytes dA := ⟨rfl, by unfold isBytes; decide⟩
theorem dB_ok : dB.length = 32 ∧ isBytes dB := ⟨rfl, by unfold isBytes; decide⟩
def fAB : List Int := [1, 0, 0, 0, 2, 0, 0, 0, 97, 98]
theorem fAB_eq : frameL [[97, 98]] = fAB := by decide +kernel
theorem fAB_unf : unframeL fAB = some [[97, 98]] := by decide +kernel
theorem fAB_bytes : isBytes fAB := by unfold isBytes fAB; decide
theorem infoD (l : List Int) (h : l.length = 32) : (Tryd.prog.info? 24).map (·.size) = some (ints .u8 l).length := by rw [ints_length, h]; exact infoDigest
theorem lenD (l : List Int) (h : l.length = 32) : (ints .u8 l).length = (ints .u8 (List.replicate 32 0)).length := by rw [ints_length, h, ints_length, List.length_replicate]
theorem parts_in_one {w : World} {q : Nat} {v : Value} {zs : List Int} (hq : Blk w q 36 [v]) (hv : BytesIn w v zs) (hn : NilOk v) (hl : zs.length ≤ 1000000) : PartsIn w (.slice (some ⟨q, 0, none⟩) 1 1) [zs] :=
  ⟨some ⟨q, 0, none⟩, 1, [v], rfl, rfl, by simp, fun _ => ⟨q, 0, rfl, hq.lt, hq.whole⟩, fun k u us hu hus => by
    cases k with
    | zero => simp at hu hus; subst hu; subst hus; exact ⟨hv, hn, by omega⟩
    | succ k => simp at hu⟩
/-- What alive has in memory at its last statement. -/
structure Tv (D X A B : Nat) (fv : Value) (w w' : World) : Prop where
  d : Blk w' D 24 (ints .u8 dD)
  x : Blk w' X 24 (ints .u8 dD)
  a : Blk w' A 24 (ints .u8 dA)
  b : Blk w' B 24 (ints .u8 dB)
  f : BytesIn w' fv fAB
  k : KW w'
  bel : Below w.heap.size w w'
theorem Tv.next {D X A B : Nat} {fv : Value} {w w1 w2 : World} (h : Tv D X A B fv w w1) (hb : Below w1.heap.size w1 w2) : Tv D X A B fv w w2 :=
  ⟨h.d.below hb h.d.lt, h.x.below hb h.x.lt, h.a.below hb h.a.lt, h.b.below hb h.b.lt, h.f.below hb (Nat.le_refl _), h.k.below hb h.k.lt, h.bel.trans (hb.mono h.bel.size)⟩
theorem DigsIn.next {w w' : World} {v : Value} {ds : List (List Int)} (h : DigsIn w v ds) (hb : Below w.heap.size w w') : DigsIn w' v ds := by
  obtain ⟨a, c, h1, h2⟩ := h
  refine ⟨a, c, h1, fun hp => ?_⟩
  obtain ⟨pb, po, h3, h4, h5⟩ := h2 hp
  exact ⟨pb, po, h3, Nat.lt_of_lt_of_le h4 hb.size, fun j v hv => by rw [hb.cell (p := ⟨pb, po + j, none⟩) h4]; exact h5 j v hv⟩
theorem digs_new (w : World) (ds : List (List Int)) : DigsIn (w.alloc (.cells (ints .u8 ds.flatten).toArray 24)) (.slice (some ⟨w.heap.size, 0, none⟩) ds.length ds.length) ds :=
  ⟨some ⟨w.heap.size, 0, none⟩, ds.length, rfl, fun _ => ⟨w.heap.size, 0, rfl, by simp, (Blk.new w 24 (ints .u8 ds.flatten)).whole⟩⟩
theorem StrsIn.next {w w' : World} {v : Value} {ss : List ByteArray} (h : StrsIn w v ss) (hb : Below w.heap.size w w') : StrsIn w' v ss := by
  obtain ⟨a, c, h1, h2⟩ := h
  refine ⟨a, c, h1, fun hp => ?_⟩
  obtain ⟨pb, po, h3, h4, h5⟩ := h2 hp
  exact ⟨pb, po, h3, Nat.lt_of_lt_of_le h4 hb.size, fun j v hv => by rw [hb.cell (p := ⟨pb, po + j, none⟩) h4]; exact h5 j v hv⟩
theorem strs_new (w : World) (s : ByteArray) : StrsIn (w.alloc (.cells #[.string s] 9)) (.slice (some ⟨w.heap.size, 0, none⟩) 1 1) [s] :=
  ⟨some ⟨w.heap.size, 0, none⟩, 1, rfl, fun _ => ⟨w.heap.size, 0, rfl, by simp, (Blk.new w 9 [.string s]).whole⟩⟩
theorem parts_none (w : World) : PartsIn w (.slice none 0 0) [] := ⟨none, 0, [], rfl, rfl, by simp, fun h => absurd h (by simp), fun k v zs h => by simp at h⟩
theorem okAB : okD [dA, dB] := fun d hd => by
  rcases List.mem_cons.1 hd with rfl | hd
  · exact dA_ok
  · rcases List.mem_cons.1 hd with rfl | hd
    · exact dB_ok
    · cases hd
theorem set_two {w : World} {u : Value} (hu : DigsIn w u [dA, dB]) (hK : KW w) : Calls Tryd.prog 16 #[.int .u8 1, u] w fun e w' => e = .returned (.agg (ints .u8 (nodeL 1 [dA, dB])).toArray) ∧ Below w.heap.size w w' :=
  tset_walk 1 u [dA, dB] 2 2 w hu rfl (by omega) (by omega) okAB (by omega) (by omega) (fun i h1 h2 => by
    have : i = 1 := by omega
    subst this; decide) (.inl rfl) hK
theorem okBAB : okD [dB, dA, dB] := fun d hd => by
  rcases List.mem_cons.1 hd with rfl | hd
  · exact dB_ok
  · exact okAB d hd
theorem srtBAB : isortTo [dB, dA, dB] 2 = [dA, dB, dB] := by decide
theorem set_three {w : World} {u : Value} (hu : DigsIn w u [dB, dA, dB]) (hK : KW w) : Calls Tryd.prog 16 #[.int .u8 1, u] w fun e w' => e = .returned (.agg (ints .u8 (nodeL 1 [dA, dB])).toArray) ∧ Below w.heap.size w w' := by
  have h := tset_walk 1 u [dB, dA, dB] 3 2 w hu rfl (by omega) (by omega) okBAB (by omega) (by omega) (fun i h1 h2 => by
    have : i = 1 := by omega
    subst this; decide) (.inr ⟨rfl, by decide⟩) hK
  rw [show 3 - 1 = 2 from rfl, srtBAB] at h
  exact h
theorem sort_three {w : World} {u : Value} (hu : DigsIn w u [dB, dA, dB]) : Calls Tryd.prog 14 #[u] w (DigNew [dA, dB] w) := by
  have h := tsort_walk u [dB, dA, dB] 3 2 w hu rfl (by omega) (by omega) okBAB (by omega) (by omega) (fun i h1 h2 => by
    have : i = 1 := by omega
    subst this; decide) (.inr ⟨rfl, by decide⟩)
  rw [show 3 - 1 = 2 from rfl, srtBAB] at h
  exact h
theorem set_one {w : World} {u : Value} (d : List Int) (hd : d.length = 32 ∧ isBytes d) (hu : DigsIn w u [d]) (hK : KW w) : Calls Tryd.prog 16 #[.int .u8 1, u] w fun e w' => e = .returned (.agg (ints .u8 (nodeL 1 [d])).toArray) ∧ Below w.heap.size w w' :=
  tset_walk 1 u [d] 1 1 w hu rfl (by omega) (by omega) (fun x hx => by simp at hx; subst hx; exact hd) (by omega) (by omega) (fun i h1 h2 => by omega) (.inl rfl) hK
theorem node_ne : nodeL 1 [dA] ≠ nodeL 1 [dB] := by decide +kernel
theorem short_D : (strOfNums (hexL dD)).extract 0 8 = ⟨#[48, 49, 102, 102, 48, 48, 48, 48]⟩ := by decide +kernel
theorem frame_nil : (3 : Int) :: frameL [] = [3, 0, 0, 0, 0] := by decide
set_option maxHeartbeats 2000000 in
theorem talive_walk (w : World) (hK : KW w) : Calls Tryd.prog 5 #[] w fun e w' => e = .returned (.bool true) ∧ Below w.heap.size w w' := by
  have HK := Lib.hid hK
  have I1 := Lib.hid (infoD dD dD_ok.1)
  have I1' : Hid ((Tryd.prog.info? 24).map (·.size) = some (ints .u8 dD).toArray.size) := infoD dD dD_ok.1
  have I2 := Lib.hid (infoD dA dA_ok.1)
  have I3 := Lib.hid (infoD dB dB_ok.1)
  have L1 := Lib.hid (lenD dD dD_ok.1)
  have L2 := Lib.hid (lenD dA dA_ok.1)
  have L3 := Lib.hid (lenD dB dB_ok.1)
  clear hK
  go_enter Tryd.func5, Tryd.ntmps5
  go_wp2_with (with_reducible refine wpList_store_whole (op := ⟨none, Op.store 24 _ _, _, _, _, _⟩) ?a1 24 (.tmp 1) (.tmp 9) ?a2 w.heap.size (ints .u8 dD) ?a3 ?a4 24 (ints .u8 (List.replicate 32 0)) ?a5 L1.out I1.out (ints_oneCell _ _) ?_)
  case a1 => rfl
  case a2 => rfl
  all_goals try (case a3 => rfl)
  case a4 => kernel_rfl
  case a5 => exact Blk.new2 _ _ _ _ _ rfl (by kernel_rfl)
  intro w1 hb1 hup1 hsz1
  have D1 := Lib.hid hb1
  have BE1 := Lib.hid (hup1.below ((Below.refl w.heap.size w).alloc (Nat.le_refl _) _) (Nat.le_refl _) (by simp))
  clear hb1 hup1 hsz1
  refine wpList_nil ?_
  go_wp2_with (refine wpList_load_row rfl 24 _ rfl w.heap.size rfl 24 (ints .u8 dD).toArray (0, 0) _ D1.out Tryd.underlying24 rfl I1'.out ?_)
  refine (hex_walk dD dD_ok.1 dD_ok.2 _).mono ?_
  rintro e w2 ⟨rfl, hb2⟩
  have D2 := Lib.hid (D1.out.below hb2 D1.out.lt)
  have BE2 := Lib.hid (BE1.out.trans (hb2.mono BE1.out.size))
  clear hb2 D1 BE1
  go_wp2_with fail
  refine (fromhex_hex dD dD_ok.1 dD_ok.2 _).mono ?_
  rintro e w3 ⟨rfl, hb3⟩
  have D3 := Lib.hid (D2.out.below hb3 D2.out.lt)
  have BE3 := Lib.hid (BE2.out.trans (hb3.mono BE2.out.size))
  clear hb3 D2 BE2
  obtain ⟨hs, hhs⟩ : ∃ s, Hid (strOfNums (hexL dD) = s) := ⟨_, rfl⟩
  rw [hhs.out]
  go_wp2_with (refine wpList_store_whole rfl 24 _ _ rfl w3.heap.size (ints .u8 dD) rfl rfl 24 (ints .u8 (List.replicate 32 0)) (Blk.new2 _ _ _ _ _ rfl (by kernel_rfl)) L1.out I1.out (ints_oneCell _ _) ?_)
  intro w4 hb4 hup4 hsz4
  have hwx := BE3.out.size
  have hD3 := D3.out.lt
  have X4 := Lib.hid hb4
  have D4 := Lib.hid (hup4.blk (D3.out.alloc _) (by omega))
  have BE4 := Lib.hid (hup4.below (BE3.out.alloc BE3.out.size _) BE3.out.size (by simp; omega))
  obtain ⟨X, hX⟩ : ∃ X, X = w3.heap.size := ⟨_, rfl⟩
  rw [← hX] at X4 hwx hD3 ⊢
  have hXlt : X < w4.heap.size := X4.out.lt
  clear hb4 hup4 hsz4 hX D3 BE3
  go_wp2_with fail
  refine (frame_walk _ [[97, 98]] _ (parts_in_one (Blk.new2 _ _ _ [_] _ (by simp) rfl) (bytes_blk (zs := [97, 98]) ((Blk.new2 w4 _ _ _ _ rfl rfl).alloc _) rfl) trivial (by decide)) (by decide) (by decide)).mono ?_
  rintro e w5 ⟨fv, rfl, hfo, hb5⟩
  rw [fAB_eq] at hfo
  obtain ⟨fa, fc, rfl, -⟩ := id (owns_bytes hfo)
  have hA5 := hb5.size
  have BE5' : Hid (Below w4.heap.size w4 w5) := (((Below.refl w4.heap.size w4).alloc (Nat.le_refl _) (.cells #[.int .u8 97, .int .u8 98] 5)).alloc (by simp) _).trans (hb5.mono (by simp; omega))
  have F5 := Lib.hid (owns_bytes hfo)
  have X5 := Lib.hid (X4.out.below BE5'.out X4.out.lt)
  have D5 := Lib.hid (D4.out.below BE5'.out D4.out.lt)
  have BE5 := Lib.hid (BE4.out.trans (BE5'.out.mono BE4.out.size))
  clear hfo hb5 hA5 X4 D4 BE4 BE5'
  have hfl : fAB.length = 10 := rfl
  rw [hfl] at F5 ⊢
  clear hfl hXlt
  go_wp2_with fail
  have huf := unframe_walk (.slice fa 10 fc) fAB w5 F5.out fAB_bytes (by decide)
  rw [fAB_unf] at huf
  refine huf.mono ?_
  rintro e w6 ⟨lv, rfl, hlp, hb6⟩
  obtain ⟨la, lc, _, rfl, -⟩ := hlp
  have F6 := Lib.hid (F5.out.below hb6 (Nat.le_refl _))
  have X6 := Lib.hid (X5.out.below hb6 X5.out.lt)
  have D6 := Lib.hid (D5.out.below hb6 D5.out.lt)
  have BE6 := Lib.hid (BE5.out.trans (hb6.mono BE5.out.size))
  clear hb6 F5 X5 D5 BE5 huf
  go_wp2_with (with_reducible refine wpList_store_whole (op := ⟨none, Op.store 24 _ _, _, _, _, _⟩) ?b1 24 (.tmp 7) (.tmp 24) ?b2 w6.heap.size (ints .u8 dA) ?b3 ?b4 24 (ints .u8 (List.replicate 32 0)) ?b5 L2.out I2.out (ints_oneCell _ _) ?_)
  case b1 => rfl
  case b2 => rfl
  all_goals try (case b3 => rfl)
  case b4 => kernel_rfl
  case b5 => exact Blk.new2 _ _ _ _ _ rfl (by kernel_rfl)
  intro w7 hb7 hup7 hsz7
  have hD6 := D6.out.lt
  have hX6 := X6.out.lt
  have hw6 := BE6.out.size
  have A7 := Lib.hid hb7
  have D7 := Lib.hid (hup7.blk (D6.out.alloc _) (by omega))
  have X7 := Lib.hid (hup7.blk (X6.out.alloc _) (by omega))
  have BEA := Lib.hid (hup7.below ((Below.refl w6.heap.size w6).alloc (Nat.le_refl _) _) (Nat.le_refl _) (by simp))
  have F7 := Lib.hid (F6.out.below BEA.out (Nat.le_refl _))
  have BE7 := Lib.hid (BE6.out.trans (BEA.out.mono BE6.out.size))
  obtain ⟨A, hA⟩ : ∃ A, A = w6.heap.size := ⟨_, rfl⟩
  rw [← hA] at A7 ⊢
  clear hb7 hup7 hsz7 D6 X6 F6 BE6 BEA hA hD6 hX6 hw6
  refine wpList_nil ?_
  go_wp2_with (with_reducible refine wpList_store_whole (op := ⟨none, Op.store 24 _ _, _, _, _, _⟩) ?c1 24 (.tmp 8) (.tmp 25) ?c2 w7.heap.size (ints .u8 dB) ?c3 ?c4 24 (ints .u8 (List.replicate 32 0)) ?c5 L3.out I3.out (ints_oneCell _ _) ?_)
  case c1 => rfl
  case c2 => rfl
  all_goals try (case c3 => rfl)
  case c4 => kernel_rfl
  case c5 => exact Blk.new2 _ _ _ _ _ rfl (by kernel_rfl)
  intro w8 hb8 hup8 hsz8
  have hD7 := D7.out.lt
  have hX7 := X7.out.lt
  have hA7 := A7.out.lt
  have BEB := Lib.hid (hup8.below ((Below.refl w7.heap.size w7).alloc (Nat.le_refl _) _) (Nat.le_refl _) (by simp))
  have BE8 := Lib.hid (BE7.out.trans (BEB.out.mono BE7.out.size))
  have TV : Hid (Tv w.heap.size X A w7.heap.size (.slice fa 10 fc) w w8) :=
    ⟨hup8.blk (D7.out.alloc _) (by omega), hup8.blk (X7.out.alloc _) (by omega), hup8.blk (A7.out.alloc _) (by omega), hb8, F7.out.below BEB.out (Nat.le_refl _), HK.out.below BE8.out HK.out.lt, BE8.out⟩
  obtain ⟨B, hB⟩ : ∃ B, B = w7.heap.size := ⟨_, rfl⟩
  rw [← hB] at TV ⊢
  clear hb8 hup8 hsz8 D7 X7 A7 F7 BE7 BE8 BEB hB hD7 hX7 hA7
  refine wpList_nil ?_
  go_wp2_with fail
  refine region_begin (opsOf Tryd.f5 7) (Tv w.heap.size X A B (.slice fa 10 fc) w) (by kernel_rfl) (by kernel_rfl) 75 (by kernel_rfl) ?_
  intro Q' hQ hN
  have hS : Tv w.heap.size X A B (.slice fa 10 fc) w w8.drew := TV.out.next (Below.refl _ _).drew
  clear TV
  generalize w8.drew = w9 at hS ⊢
  refine reg_now 0 (.bool true) (some 26) hQ hS (by kernel_rfl) (by kernel_rfl) (fun w => by kernel_rfl) ?_
  refine reg_now 1 (.bool true) (some 27) hQ hS (by kernel_rfl) (by kernel_rfl) (fun w => by kernel_rfl) ?_
  refine reg_now 2 (.bool true) (some 28) hQ hS (by kernel_rfl) (by kernel_rfl) (fun w => by kernel_rfl) ?_
  refine reg_now 3 (.bool true) (some 29) hQ hS (by kernel_rfl) (by kernel_rfl) (fun w => by kernel_rfl) ?_
  refine reg_now 4 (.bool true) (some 30) hQ hS (by kernel_rfl) (by kernel_rfl) (fun w => by kernel_rfl) ?_
  refine reg_nowIf 5 (.agg (ints .u8 dD).toArray) (some 31) hQ hS (by kernel_rfl) (by kernel_rfl) (fun w' hw => exec_load_mid 24 (.tmp 2) (by kernel_rfl) X 0 (by kernel_rfl) (ints .u8 dD) _ hw.x.whole Tryd.underlying24 rfl I1.out) ?_
  refine reg_nowIf 6 (.agg (ints .u8 dD).toArray) (some 32) hQ hS (by kernel_rfl) (by kernel_rfl) (fun w' hw => exec_load_mid 24 (.tmp 1) (by kernel_rfl) w.heap.size 0 (by kernel_rfl) (ints .u8 dD) _ hw.d.whole Tryd.underlying24 rfl I1.out) ?_
  refine reg_now 7 (.bool (decide (dD = dD))) (some 33) hQ hS (by kernel_rfl) (by kernel_rfl) (fun w' => exec_eql w' (.tmp 31) (.tmp 32) 24 (by kernel_rfl) Tryd.underlying24 Tryd.underlying5 sizeByte guardDigest dD dD dD_ok.1 dD_ok.1 (by kernel_rfl) (by kernel_rfl)) ?_
  rw [show decide (dD = dD) = true from decide_eq_true rfl]
  refine reg_now 8 (.bool true) (some 34) hQ hS (by kernel_rfl) (by kernel_rfl) (fun w => by kernel_rfl) ?_
  refine reg_now 9 (.bool true) (some 35) hQ hS (by kernel_rfl) (by kernel_rfl) (fun w => by kernel_rfl) ?_
  refine reg_now 10 (.slice la 1 lc) (some 36) hQ hS (by kernel_rfl) (by kernel_rfl) (fun w => by kernel_rfl) ?_
  refine reg_now 11 (.int .i64 1) (some 37) hQ hS (by kernel_rfl) (by kernel_rfl) (fun w => by kernel_rfl) ?_
  refine reg_now 12 (.bool true) (some 38) hQ hS (by kernel_rfl) (by kernel_rfl) (fun w => by kernel_rfl) ?_
  refine reg_now 13 (.bool true) (some 39) hQ hS (by kernel_rfl) (by kernel_rfl) (fun w => by kernel_rfl) ?_
  refine reg_now 14 (.bool true) (some 40) hQ hS (by kernel_rfl) (by kernel_rfl) (fun w => by kernel_rfl) ?_
  refine reg_now 15 (.slice fa 10 fc) (some 41) hQ hS (by kernel_rfl) (by kernel_rfl) (fun w => by kernel_rfl) ?_
  have hS10 := hS.next ((Below.refl w9.heap.size w9).alloc (Nat.le_refl _) (.cells #[.int .u8 1, .int .u8 0, .int .u8 0, .int .u8 0, .int .u8 2, .int .u8 0, .int .u8 0, .int .u8 0, .int .u8 97, .int .u8 98] 5))
  have qa : Blk (w9.alloc (.cells #[.int .u8 1, .int .u8 0, .int .u8 0, .int .u8 0, .int .u8 2, .int .u8 0, .int .u8 0, .int .u8 0, .int .u8 97, .int .u8 98] 5)) w9.heap.size 5 (ints .u8 fAB) := Blk.new2 _ _ _ _ _ rfl rfl
  refine reg_value 16 (.slice (some ⟨w9.heap.size, 0, none⟩) 10 10) (some 42) (w9.alloc (.cells #[.int .u8 1, .int .u8 0, .int .u8 0, .int .u8 0, .int .u8 2, .int .u8 0, .int .u8 0, .int .u8 0, .int .u8 97, .int .u8 98] 5)) (by kernel_rfl) (by kernel_rfl) (by kernel_rfl) hS10 ?_
  obtain ⟨Qa, hQa⟩ : ∃ Q, Q = w9.heap.size := ⟨_, rfl⟩
  rw [← hQa] at qa ⊢
  generalize w9.alloc (.cells #[.int .u8 1, .int .u8 0, .int .u8 0, .int .u8 0, .int .u8 2, .int .u8 0, .int .u8 0, .int .u8 0, .int .u8 97, .int .u8 98] 5) = w10 at hS10 qa ⊢
  refine reg_call 17 20 #[.slice fa 10 fc, .slice (some ⟨Qa, 0, none⟩) 10 10] (some 43) _ (by kernel_rfl) (by kernel_rfl) (by kernel_rfl) (sameb_true _ _ fAB w10 hS10.f (bytes_blk qa rfl) (by decide)) ?_
  rintro e w11 ⟨rfl, na, hna⟩
  have hS11 : Tv w.heap.size X A B (.slice fa 10 fc) w w11 := by rw [hna]; exact hS10.next (below_drewN _ _)
  refine ⟨_, rfl, hS11, ?_⟩
  clear hna qa
  refine reg_now 18 (.bool true) (some 44) hQ hS11 (by kernel_rfl) (by kernel_rfl) (fun w => by kernel_rfl) ?_
  refine reg_now 19 (.bool true) (some 45) hQ hS11 (by kernel_rfl) (by kernel_rfl) (fun w => by kernel_rfl) ?_
  refine reg_nowIf 20 (.agg (ints .u8 dA).toArray) (some 46) hQ hS11 (by kernel_rfl) (by kernel_rfl) (fun w' hw => exec_load_mid 24 (.tmp 7) (by kernel_rfl) A 0 (by kernel_rfl) (ints .u8 dA) _ hw.a.whole Tryd.underlying24 rfl I2.out) ?_
  refine reg_nowIf 21 (.agg (ints .u8 dB).toArray) (some 47) hQ hS11 (by kernel_rfl) (by kernel_rfl) (fun w' hw => exec_load_mid 24 (.tmp 8) (by kernel_rfl) B 0 (by kernel_rfl) (ints .u8 dB) _ hw.b.whole Tryd.underlying24 rfl I3.out) ?_
  refine reg_call 22 11 #[.agg (ints .u8 dA).toArray, .agg (ints .u8 dB).toArray] (some 48) _ (by kernel_rfl) (by kernel_rfl) (by kernel_rfl) (tcompare_walk dA dB dA_ok.1 dB_ok.1 dA_ok.2 dB_ok.2 w11) ?_
  rintro e w12 ⟨rfl, hb12⟩
  have hS12 := hS11.next hb12
  refine ⟨_, rfl, hS12, ?_⟩
  clear hb12
  rw [show cmpD dA dB = -1 by decide]
  refine reg_now 23 (.bool true) (some 49) hQ hS12 (by kernel_rfl) (by kernel_rfl) (fun w => by kernel_rfl) ?_
  refine reg_now 24 (.bool true) (some 50) hQ hS12 (by kernel_rfl) (by kernel_rfl) (fun w => by kernel_rfl) ?_
  refine reg_now 25 (.bool true) (some 51) hQ hS12 (by kernel_rfl) (by kernel_rfl) (fun w => by kernel_rfl) ?_
  refine reg_nowIf 26 (.agg (ints .u8 dA).toArray) (some 52) hQ hS12 (by kernel_rfl) (by kernel_rfl) (fun w' hw => exec_load_mid 24 (.tmp 7) (by kernel_rfl) A 0 (by kernel_rfl) (ints .u8 dA) _ hw.a.whole Tryd.underlying24 rfl I2.out) ?_
  refine reg_nowIf 27 (.agg (ints .u8 dB).toArray) (some 53) hQ hS12 (by kernel_rfl) (by kernel_rfl) (fun w' hw => exec_load_mid 24 (.tmp 8) (by kernel_rfl) B 0 (by kernel_rfl) (ints .u8 dB) _ hw.b.whole Tryd.underlying24 rfl I3.out) ?_
  refine reg_nowIf 30 (.agg (ints .u8 dB).toArray) (some 56) hQ hS12 (by kernel_rfl) (by kernel_rfl) (fun w' hw => exec_load_mid 24 (.tmp 8) (by kernel_rfl) B 0 (by kernel_rfl) (ints .u8 dB) _ hw.b.whole Tryd.underlying24 rfl I3.out) ?_
  refine reg_nowIf 31 (.agg (ints .u8 dA).toArray) (some 57) hQ hS12 (by kernel_rfl) (by kernel_rfl) (fun w' hw => exec_load_mid 24 (.tmp 7) (by kernel_rfl) A 0 (by kernel_rfl) (ints .u8 dA) _ hw.a.whole Tryd.underlying24 rfl I2.out) ?_
  refine reg_nowIf 32 (.agg (ints .u8 dB).toArray) (some 58) hQ hS12 (by kernel_rfl) (by kernel_rfl) (fun w' hw => exec_load_mid 24 (.tmp 8) (by kernel_rfl) B 0 (by kernel_rfl) (ints .u8 dB) _ hw.b.whole Tryd.underlying24 rfl I3.out) ?_
  refine reg_group 28 29 33 54 55 59 16 (fun q => (.slice (some ⟨q, 0, none⟩) 2 2)) (fun q => (.slice (some ⟨q, 0, none⟩) 3 3)) (.cells (ints .u8 [dA, dB].flatten).toArray 24) (.cells (ints .u8 [dB, dA, dB].flatten).toArray 24) (fun q => #[.int .u8 1, .slice (some ⟨q, 0, none⟩) 2 2]) (.agg (ints .u8 (nodeL 1 [dA, dB])).toArray) (fun w' q => DigsIn w' (.slice (some ⟨q, 0, none⟩) 2 2) [dA, dB]) (fun w' q => DigsIn w' (.slice (some ⟨q, 0, none⟩) 3 3) [dB, dA, dB]) hS12 (fun _ _ h hb => h.next hb) (by kernel_rfl) (by kernel_rfl) (by kernel_rfl) (by kernel_rfl) (by decide) (by decide) (by decide) (by kernel_rfl) (by kernel_rfl) (fun q => by kernel_rfl) (fun q => by kernel_rfl) (fun q => by kernel_rfl) (fun q r => by kernel_rfl) (fun q => by kernel_rfl) (fun w1 => by kernel_rfl) (fun r w1 => by kernel_rfl) (fun w1 => by kernel_rfl) (fun q w1 => by kernel_rfl) (fun q w1 => by kernel_rfl) (fun q w1 => by kernel_rfl) (fun q r w1 => by kernel_rfl) (fun w1 => digs_new w1 [dA, dB]) (fun _ _ _ h hb => h.next hb) (fun w1 => digs_new w1 [dB, dA, dB]) (fun _ _ _ h hb => h.next hb) (fun _ _ s i => set_two i s.k) ?_
  intro w13 P2 P3 hS13 hD13
  refine reg_call 34 16 #[.int .u8 1, .slice (some ⟨P3, 0, none⟩) 3 3] (some 60) _ (by kernel_rfl) (by kernel_rfl) (by kernel_rfl) (set_three hD13 hS13.k) ?_
  rintro e w14 ⟨rfl, hb14⟩
  have hS14 := hS13.next hb14
  refine ⟨_, rfl, hS14, ?_⟩
  clear hb14 hD13
  have hnl := nodeL_length 1 [dA, dB]
  generalize nodeL 1 [dA, dB] = nab at *
  refine reg_now 35 (.bool (decide (nab = nab))) (some 61) hQ hS14 (by kernel_rfl) (by kernel_rfl) (fun w' => exec_eql w' (.tmp 55) (.tmp 60) 24 (by kernel_rfl) Tryd.underlying24 Tryd.underlying5 sizeByte guardDigest nab nab hnl hnl (by kernel_rfl) (by kernel_rfl)) ?_
  rw [show decide (nab = nab) = true from decide_eq_true rfl]
  refine reg_now 36 (.bool true) (some 62) hQ hS14 (by kernel_rfl) (by kernel_rfl) (fun w => by kernel_rfl) ?_
  refine reg_now 37 (.bool true) (some 63) hQ hS14 (by kernel_rfl) (by kernel_rfl) (fun w => by kernel_rfl) ?_
  refine reg_nowIf 38 (.agg (ints .u8 dA).toArray) (some 64) hQ hS14 (by kernel_rfl) (by kernel_rfl) (fun w' hw => exec_load_mid 24 (.tmp 7) (by kernel_rfl) A 0 (by kernel_rfl) (ints .u8 dA) _ hw.a.whole Tryd.underlying24 rfl I2.out) ?_
  refine reg_nowIf 41 (.agg (ints .u8 dB).toArray) (some 67) hQ hS14 (by kernel_rfl) (by kernel_rfl) (fun w' hw => exec_load_mid 24 (.tmp 8) (by kernel_rfl) B 0 (by kernel_rfl) (ints .u8 dB) _ hw.b.whole Tryd.underlying24 rfl I3.out) ?_
  refine reg_group 39 40 42 65 66 68 16 (fun q => (.slice (some ⟨q, 0, none⟩) 1 1)) (fun q => (.slice (some ⟨q, 0, none⟩) 1 1)) (.cells (ints .u8 [dA].flatten).toArray 24) (.cells (ints .u8 [dB].flatten).toArray 24) (fun q => #[.int .u8 1, .slice (some ⟨q, 0, none⟩) 1 1]) (.agg (ints .u8 (nodeL 1 [dA])).toArray) (fun w' q => DigsIn w' (.slice (some ⟨q, 0, none⟩) 1 1) [dA]) (fun w' q => DigsIn w' (.slice (some ⟨q, 0, none⟩) 1 1) [dB]) hS14 (fun _ _ h hb => h.next hb) (by kernel_rfl) (by kernel_rfl) (by kernel_rfl) (by kernel_rfl) (by decide) (by decide) (by decide) (by kernel_rfl) (by kernel_rfl) (fun q => by kernel_rfl) (fun q => by kernel_rfl) (fun q => by kernel_rfl) (fun q r => by kernel_rfl) (fun q => by kernel_rfl) (fun w1 => by kernel_rfl) (fun r w1 => by kernel_rfl) (fun w1 => by kernel_rfl) (fun q w1 => by kernel_rfl) (fun q w1 => by kernel_rfl) (fun q w1 => by kernel_rfl) (fun q r w1 => by kernel_rfl) (fun w1 => digs_new w1 [dA]) (fun _ _ _ h hb => h.next hb) (fun w1 => digs_new w1 [dB]) (fun _ _ _ h hb => h.next hb) (fun _ _ s i => set_one dA dA_ok i s.k) ?_
  intro w15 P4 P5 hS15 hD15
  refine reg_call 43 16 #[.int .u8 1, .slice (some ⟨P5, 0, none⟩) 1 1] (some 69) _ (by kernel_rfl) (by kernel_rfl) (by kernel_rfl) (set_one dB dB_ok hD15 hS15.k) ?_
  rintro e w16 ⟨rfl, hb16⟩
  have hS16 := hS15.next hb16
  refine ⟨_, rfl, hS16, ?_⟩
  clear hb16 hD15
  have hna := nodeL_length 1 [dA]
  have hnb := nodeL_length 1 [dB]
  have hnn := node_ne
  generalize nodeL 1 [dA] = na1 at *
  generalize nodeL 1 [dB] = nb1 at *
  refine reg_now 44 (.bool (!decide (na1 = nb1))) (some 70) hQ hS16 (by kernel_rfl) (by kernel_rfl) (fun w' => exec_neq w' (.tmp 66) (.tmp 69) 24 (by kernel_rfl) Tryd.underlying24 Tryd.underlying5 sizeByte guardDigest na1 nb1 hna hnb (by kernel_rfl) (by kernel_rfl)) ?_
  rw [show (!decide (na1 = nb1)) = true by rw [decide_eq_false hnn]; rfl]
  refine reg_now 45 (.bool true) (some 71) hQ hS16 (by kernel_rfl) (by kernel_rfl) (fun w => by kernel_rfl) ?_
  refine reg_now 46 (.bool true) (some 72) hQ hS16 (by kernel_rfl) (by kernel_rfl) (fun w => by kernel_rfl) ?_
  refine reg_nowIf 47 (.agg (ints .u8 dD).toArray) (some 73) hQ hS16 (by kernel_rfl) (by kernel_rfl) (fun w' hw => exec_load_mid 24 (.tmp 1) (by kernel_rfl) w.heap.size 0 (by kernel_rfl) (ints .u8 dD) _ hw.d.whole Tryd.underlying24 rfl I1.out) ?_
  have hsh := short_walk dD dD_ok.1 dD_ok.2 w16
  rw [short_D] at hsh
  refine reg_call 48 10 #[.agg (ints .u8 dD).toArray] (some 74) _ (by kernel_rfl) (by kernel_rfl) (by kernel_rfl) hsh ?_
  rintro e w17 ⟨rfl, hb17⟩
  have hS17 := hS16.next hb17
  refine ⟨_, rfl, hS17, ?_⟩
  clear hb17 hsh
  refine reg_now 49 (.bool true) (some 75) hQ hS17 (by kernel_rfl) (by kernel_rfl) (fun w => by kernel_rfl) ?_
  refine reg_now 50 (.bool true) (some 76) hQ hS17 (by kernel_rfl) (by kernel_rfl) (fun w => by kernel_rfl) ?_
  refine reg_now 51 (.bool true) (some 77) hQ hS17 (by kernel_rfl) (by kernel_rfl) (fun w => by kernel_rfl) ?_
  refine reg_nowIf 52 (.agg (ints .u8 dB).toArray) (some 78) hQ hS17 (by kernel_rfl) (by kernel_rfl) (fun w' hw => exec_load_mid 24 (.tmp 8) (by kernel_rfl) B 0 (by kernel_rfl) (ints .u8 dB) _ hw.b.whole Tryd.underlying24 rfl I3.out) ?_
  refine reg_nowIf 53 (.agg (ints .u8 dA).toArray) (some 79) hQ hS17 (by kernel_rfl) (by kernel_rfl) (fun w' hw => exec_load_mid 24 (.tmp 7) (by kernel_rfl) A 0 (by kernel_rfl) (ints .u8 dA) _ hw.a.whole Tryd.underlying24 rfl I2.out) ?_
  refine reg_nowIf 54 (.agg (ints .u8 dB).toArray) (some 80) hQ hS17 (by kernel_rfl) (by kernel_rfl) (fun w' hw => exec_load_mid 24 (.tmp 8) (by kernel_rfl) B 0 (by kernel_rfl) (ints .u8 dB) _ hw.b.whole Tryd.underlying24 rfl I3.out) ?_
  have hS18 := hS17.next ((Below.refl w17.heap.size w17).alloc (Nat.le_refl _) (.cells (ints .u8 [dB, dA, dB].flatten).toArray 24))
  have hD18 := digs_new w17 [dB, dA, dB]
  refine reg_value 55 (.slice (some ⟨w17.heap.size, 0, none⟩) 3 3) (some 81) (w17.alloc (.cells (ints .u8 [dB, dA, dB].flatten).toArray 24)) (by kernel_rfl) (by kernel_rfl) (by kernel_rfl) hS18 ?_
  obtain ⟨P6, hP6⟩ : ∃ Q, Q = w17.heap.size := ⟨_, rfl⟩
  rw [← hP6] at hD18 ⊢
  generalize w17.alloc (.cells (ints .u8 [dB, dA, dB].flatten).toArray 24) = w18 at hS18 hD18 ⊢
  refine reg_call 56 14 #[.slice (some ⟨P6, 0, none⟩) 3 3] (some 82) _ (by kernel_rfl) (by kernel_rfl) (by kernel_rfl) (sort_three hD18) ?_
  rintro e w19 ⟨P7, c7, rest7, rfl, -, -, -, hb19⟩
  have hS19 := hS18.next hb19
  refine ⟨_, rfl, hS19, ?_⟩
  clear hb19 hD18
  refine reg_now 57 (.int .i64 2) (some 83) hQ hS19 (by kernel_rfl) (by kernel_rfl) (fun w => by kernel_rfl) ?_
  refine reg_now 58 (.bool true) (some 84) hQ hS19 (by kernel_rfl) (by kernel_rfl) (fun w => by kernel_rfl) ?_
  refine reg_now 59 (.bool true) (some 85) hQ hS19 (by kernel_rfl) (by kernel_rfl) (fun w => by kernel_rfl) ?_
  refine reg_now 60 (.bool true) (some 86) hQ hS19 (by kernel_rfl) (by kernel_rfl) (fun w => by kernel_rfl) ?_
  refine reg_group4 61 62 63 64 87 88 89 90 21 (fun q => (.slice (some ⟨q, 0, none⟩) 1 1)) (fun q => (.slice (some ⟨q, 0, none⟩) 2 2)) (fun q => (.slice (some ⟨q, 0, none⟩) 1 1)) (.cells #[.string ⟨#[97, 98]⟩] 9) (.cells (ints .u8 [97, 98]).toArray 5) (fun r => .cells #[.slice (some ⟨r, 0, none⟩) 2 2] 36) (fun q => #[.int .u8 3, .slice (some ⟨q, 0, none⟩) 1 1]) (.agg (ints .u8 (nodeL 3 [[97, 98]])).toArray)
    (fun w' q => StrsIn w' (.slice (some ⟨q, 0, none⟩) 1 1) [⟨#[97, 98]⟩]) (fun w' q => Blk w' q 5 (ints .u8 [97, 98])) (fun w' q => PartsIn w' (.slice (some ⟨q, 0, none⟩) 1 1) [[97, 98]]) hS19 (fun _ _ h hb => h.next hb) (by kernel_rfl) (by kernel_rfl) (by kernel_rfl) (by kernel_rfl) (by kernel_rfl) (by kernel_rfl) (by kernel_rfl) (by kernel_rfl) (by kernel_rfl) (by kernel_rfl) (by kernel_rfl) (by kernel_rfl) (by kernel_rfl) (by kernel_rfl) (by kernel_rfl) (by kernel_rfl) (by decide) (by decide) (by decide) (by decide)
    (by kernel_rfl) (fun q => by kernel_rfl) (fun q r => by kernel_rfl) (fun q => by kernel_rfl) (fun q r => by kernel_rfl) (fun q r t => by kernel_rfl) (by kernel_rfl) (fun q => by kernel_rfl) (fun q => by kernel_rfl) (fun q => by kernel_rfl) (fun q r => by kernel_rfl) (fun q r => by kernel_rfl)
    (fun w1 => by kernel_rfl) (fun q w1 => by kernel_rfl) (fun q r w1 => by kernel_rfl) (fun q w1 => by kernel_rfl) (fun q r w1 => by kernel_rfl) (fun q r t w1 => by kernel_rfl) (fun w1 => by kernel_rfl) (fun q w1 => by kernel_rfl) (fun q w1 => by kernel_rfl) (fun q w1 => by kernel_rfl) (fun q r w1 => by kernel_rfl) (fun q r w1 => by kernel_rfl)
    (fun w1 => strs_new w1 ⟨#[97, 98]⟩) (fun _ _ _ h hb => h.next hb) (fun w1 => Blk.new w1 5 (ints .u8 [97, 98])) (fun _ _ _ h hb => h.below hb h.lt) (fun w1 r h => parts_in_one (Blk.new2 _ _ _ [_] _ rfl rfl) (bytes_blk (zs := [97, 98]) (h.alloc _) rfl) trivial (by decide)) (fun _ _ _ h hb => h.below hb (Nat.le_refl _))
    (fun _ _ s i => texts_walk 3 _ [⟨#[97, 98]⟩] _ i (by decide) (by decide) s.k) ?_
  intro w21 P8 P9 P10 hS21 hP21
  refine reg_call 65 22 #[.int .u8 3, .slice (some ⟨P10, 0, none⟩) 1 1] (some 91) _ (by kernel_rfl) (by kernel_rfl) (by kernel_rfl) (node_walk 3 _ [[97, 98]] w21 hP21 (by decide) (by decide) hS21.k) ?_
  rintro e w22 ⟨rfl, hb22⟩
  have hS22 := hS21.next hb22
  refine ⟨_, rfl, hS22, ?_⟩
  clear hb22 hP21
  have hn3 := nodeL_length 3 [[97, 98]]
  generalize nodeL 3 [[97, 98]] = n3 at *
  refine reg_now 66 (.bool (decide (n3 = n3))) (some 92) hQ hS22 (by kernel_rfl) (by kernel_rfl) (fun w' => exec_eql w' (.tmp 88) (.tmp 91) 24 (by kernel_rfl) Tryd.underlying24 Tryd.underlying5 sizeByte guardDigest n3 n3 hn3 hn3 (by kernel_rfl) (by kernel_rfl)) ?_
  rw [show decide (n3 = n3) = true from decide_eq_true rfl]
  refine reg_now 67 (.bool true) (some 93) hQ hS22 (by kernel_rfl) (by kernel_rfl) (fun w => by kernel_rfl) ?_
  refine reg_now 68 (.bool true) (some 94) hQ hS22 (by kernel_rfl) (by kernel_rfl) (fun w => by kernel_rfl) ?_
  refine reg_group2 69 70 95 96 22 (fun q => (.slice (some ⟨q, 0, none⟩) 5 5)) (.cells (ints .u8 [3, 0, 0, 0, 0]).toArray 5) #[.int .u8 3, .slice none 0 0] (.agg (ints .u8 (nodeL 3 [])).toArray) (fun w' q => Blk w' q 5 (ints .u8 [3, 0, 0, 0, 0])) hS22 (fun _ _ h hb => h.next hb) (by kernel_rfl) (by kernel_rfl) (by kernel_rfl) (by decide) (by kernel_rfl) (by kernel_rfl) (by kernel_rfl) (fun q => by kernel_rfl) (fun w1 => by kernel_rfl) (fun w1 => by kernel_rfl) (fun w1 => by kernel_rfl) (fun q w1 => by kernel_rfl) (fun w1 => Blk.new w1 5 (ints .u8 [3, 0, 0, 0, 0])) (fun _ _ _ h hb => h.below hb h.lt) (fun w1 s => node_walk 3 (.slice none 0 0) [] w1 (parts_none w1) (by decide) (by decide) s.k) ?_
  intro w23 P11 hS23 hB23
  refine reg_call 71 23 #[.slice (some ⟨P11, 0, none⟩) 5 5] (some 97) _ (by kernel_rfl) (by kernel_rfl) (by kernel_rfl) (sum_walk _ [3, 0, 0, 0, 0] w23 (bytes_blk hB23 rfl) (by decide) hS23.k) ?_
  rintro e w24 ⟨rfl, hb24⟩
  have hS24 := hS23.next hb24
  refine ⟨_, rfl, hS24, ?_⟩
  clear hb24 hB23
  rw [show nodeL 3 [] = Sha.sum [3, 0, 0, 0, 0] by rw [nodeL, frame_nil]]
  have hn0 := Sha.sum_length [3, 0, 0, 0, 0]
  generalize Sha.sum [3, 0, 0, 0, 0] = n0 at *
  refine reg_now 72 (.bool (decide (n0 = n0))) (some 98) hQ hS24 (by kernel_rfl) (by kernel_rfl) (fun w' => exec_eql w' (.tmp 95) (.tmp 97) 24 (by kernel_rfl) Tryd.underlying24 Tryd.underlying5 sizeByte guardDigest n0 n0 hn0 hn0 (by kernel_rfl) (by kernel_rfl)) ?_
  rw [show decide (n0 = n0) = true from decide_eq_true rfl]
  refine reg_now 73 (.bool true) (some 99) hQ hS24 (by kernel_rfl) (by kernel_rfl) (fun w => by kernel_rfl) ?_
  refine reg_now 74 (.bool true) (some 0) hQ hS24 (by kernel_rfl) (by kernel_rfl) (fun w => by kernel_rfl) ?_
  refine reg_done (by kernel_rfl) (hN _ _ ?_)
  have BELF := Lib.hid hS24.bel
  clear hS hS10 hS11 hS12 hS13 hS14 hS15 hS16 hS17 hS18 hS19 hS21 hS22 hS23 hS24 hQ hN
  generalize hact : Act.put _ (some 0) (.bool true) = act
  have h0 : act.tmps.getD 0 undef = .bool true := by rw [← hact]; kernel_rfl
  have hd : act.defers = [] := by rw [← hact]; kernel_rfl
  clear hact
  go_wp2
  refine bodyPost_ret (v := .bool true) ?_ hd ⟨rfl, BELF.out⟩
  rw [results_tmp Tryd.results5, h0]
end Go.Proofs.YtoeilaedpibboaaDoor
