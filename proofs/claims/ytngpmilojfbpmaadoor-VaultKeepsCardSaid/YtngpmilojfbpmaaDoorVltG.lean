/- Package vault: Open. -/
import Derived.Test.YtngpmilojfbpmaaDoorVltD
import Derived.Test.YtngpmilojfbpmaaDoorAreaI
import Derived.Carry
namespace Go.Proofs.YtngpmilojfbpmaaDoor
open Go Go.RowKit Go.ChangeMaps Go.MapKept
set_option maxRecDepth 100000

def packE (e : Ent) : List Int := e.1 ++ e.2
theorem recs_eq {es : List Ent} (h : (es.map (·.1)).Nodup) : (es.map (·.1)).map (recOf es) = es.map packE := by
  rw [List.map_map]
  refine List.map_congr_left fun e he => ?_
  obtain ⟨j, hj⟩ := List.mem_iff_getElem?.1 he
  simp only [Function.comp, recOf, packE, valOf_some h hj rfl, Option.getD_some]
/-- The records that are read of a disk. -/
def OpAs (seen : List Int) (half : Nat) (zss : List (List Int)) : Prop :=
  (∃ f K, CurAt seen half f ∧ Stops (secsP seen f half) (headG (secsP seen f half)) half K ∧ zss = scanR (secsP seen f half) K) ∨
  ((¬ validP (secsP seen 0 half) half ∧ ¬ validP (secsP seen half half) half) ∧ zss = [])
theorem Opened.recs {I : List Int} {half first g K : Nat} {all zss : List (List Int)} (h : Opened I half first g all K) (h0 : 0 < half) (ho : OpAs I half zss) : zss = all.take K := by
  rcases ho with ⟨f, K', hc, hs, rfl⟩ | ⟨⟨h1, h2⟩, _⟩
  · obtain rfl := h.cur.unique hc h0
    rw [h.gen] at hs
    obtain rfl := h.st.unique hs
    exact h.rs
  · rcases h.cur with ⟨_, h3, _⟩ | ⟨_, h3, _⟩
    · exact absurd h3 h1
    · exact absurd h3 h2
theorem OpAs.none {sz : Nat} {seen dur : List Int} {pend : List Wr} {zss : List (List Int)} (h : Base sz seen dur pend 0) (ho : OpAs seen (sz / 2) zss) : zss = [] := by
  rcases ho with ⟨f, K, hc, _⟩ | ⟨_, h⟩
  · exact absurd hc (no_cur h)
  · exact h
theorem scanR_bytes {L : List Int} (h : isBytes L) : ∀ K, ∀ zs ∈ scanR L K, isBytes zs
  | 0 => fun zs hz => by simp [scanR] at hz
  | K + 1 => fun zs hz => by
    rw [scanR] at hz
    rcases List.mem_append.1 hz with h1 | h1
    · exact scanR_bytes h K zs h1
    · obtain rfl : zs = recP (L.drop (64 * scanN L K)) := by simpa using h1
      unfold recP
      exact bytes_take (bytes_drop (dataK_bytes (bytes_drop h _) _) _) _
def VoPost (F : List Nat) (d sz : Nat) (seen dur : List Int) (pend : List Wr) (left : Int) (w : World) (e : Ending) (w' : World) : Prop :=
  ∃ (vb mb : Nat) (kv : Value) (es : List Ent) (zss : List (List Int)) (wv : World) (b : Bool), e = .returned (.tuple #[.pointer (some ⟨vb, 0, none⟩), .int .i64 0]) ∧ OpAs seen (sz / 2) zss ∧ es = entsK zss zss.length ∧ Vm wv F vb d none kv mb es ∧ Below w.heap.size w wv ∧ (∀ k ∈ vfoot vb mb kv, w.heap.size ≤ k) ∧
    VbPost (vfoot vb mb kv) F vb d sz seen dur pend left ((highK seen sz).toNat + 1) (es.map packE) wv (.returned (.bool b)) w'
theorem mp_new (w : World) : Mp (w.alloc (.map #[] 0)) w.heap.size [] [] := ⟨#[], 0, heap_alloc_last w _, stamped_empty 0, rfl, rfl, fun k hk => by simp at hk⟩
theorem vm_new {w : World} {F : List Nat} {vb mb d : Nat} (hb : Blk w vb 73 (vcells d none (.slice none 0 0) mb)) (hm : Mp w mb [] []) (hF : ∀ k ∈ F, k < vb ∧ k < mb) : Vm w F vb d none (.slice none 0 0) mb [] :=
  ⟨hb, ⟨rfl, .inl ⟨rfl, rfl⟩⟩, ⟨[], hm, fun i v e hv => by simp at hv⟩, fun g hg => by simp [Value.ownBlock] at hg, fun k hk hc => by
    have h1 := hF k hc
    have h2 : k = vb ∨ k = mb := by simpa [vfoot, Value.ownBlock] using hk
    omega, fun e he => by simp at he⟩
theorem VbPost.bool {E F : List Nat} {vb d sz : Nat} {seen dur : List Int} {pend : List Wr} {left : Int} {gen : Nat} {zss : List (List Int)} {w : World} {e : Ending} {w' : World} (h : VbPost E F vb d sz seen dur pend left gen zss w e w') : ∃ b, e = .returned (.bool b) := by
  obtain ⟨w0, _, ⟨h1, _⟩ | ⟨h1, _⟩⟩ := h
  · exact ⟨false, h1⟩
  · exact ⟨true, h1⟩
theorem run_build_vault (d q : Nat) (w : World) : (Instr.build 73 #[(0, .pointer (some ⟨d, 0, none⟩)), (3, .map (some q))]).run Tryd.prog w = .ok (.agg (vcells d none (.slice none 0 0) q).toArray) w := by kernel_rfl
theorem infoVault : (Tryd.prog.info? 73).map (·.size) = some 4 := by kernel_rfl
set_option maxHeartbeats 4000000 in
theorem vopen_walk (d sz : Nat) (F : List Nat) (seen dur : List Int) (pend : List Wr) (left : Int) (w : World) (h : Dk w F d sz seen dur pend left) (hby : isBytes seen) (h4 : 4 ≤ sz) (hK : KW w) (hKF : 4 ∉ F) (hlm : left ≤ 9223372036854775807) (hpm : pend.length ≤ 400000) :
    Calls Tryd.prog 10 #[.pointer (some ⟨d, 0, none⟩)] w (VoPost F d sz seen dur pend left w) := by
  have HD := Lib.hid h
  have HBY := Lib.hid hby
  have HK := Lib.hid hK
  have HKF := Lib.hid hKF
  have FB : Hid (∀ k ∈ F, k < w.heap.size) := h.lt
  have SZ : sz ≤ 4096 := by obtain ⟨sB, dB, sc, dc, rs, rd, pv, -, hx⟩ := id h; exact hx.big
  clear h hby hK hKF
  go_enter Tryd.func10, Tryd.ntmps10
  go_upto_region 1 with (fail)
  refine lin_begin (opsOf Tryd.f10 1) (by kernel_rfl) ?_
  refine lin_now 0 (.pointer (some ⟨d, 0, none⟩)) (some 8) (by kernel_rfl) (by kernel_rfl) (by kernel_rfl) ?_
  refine lin_call 1 33 #[.pointer (some ⟨d, 0, none⟩)] (some 9) _ (by kernel_rfl) (by kernel_rfl) (by kernel_rfl) (open_walk d sz F seen dur pend left _ HD.out HBY.out h4 HK.out) ?_
  rintro e w1 hp
  have hp2 : ∃ (p : Option Addr) (n : Int) (zss : List (List Int)), e = .returned (.tuple #[.pointer p, .int .i64 n]) ∧ Below w.heap.size w w1 ∧ OpAs seen (sz / 2) zss ∧ ((p = none ∧ n = 12 ∧ zss = []) ∨ (n = 0 ∧ ∃ ab f A g nx, p = some ⟨ab, 0, none⟩ ∧ Ar w1 A F ab d f (sz / 2) g nx true zss ∧ zss.length ≤ 5000 ∧ ∀ zs ∈ zss, isBytes zs)) := by
    rcases hp with ⟨ab, rfl, f, A, hc, ⟨ho, K, hs, hv, har⟩, hst⟩ | ⟨rfl, hnv, hb⟩
    · refine ⟨some ⟨ab, 0, none⟩, 0, scanR (secsP seen f (sz / 2)) K, rfl, hst.below, .inl ⟨f, K, hc, hs, rfl⟩, .inr ⟨rfl, ab, f, A, _, _, rfl, har, ?_, scanR_bytes (bytes_take (bytes_drop HBY.out _) _) K⟩⟩
      have hb := scanN_bound (L := secsP seen f (sz / 2)) (gen := headG (secsP seen f (sz / 2))) (half := sz / 2) (by omega) K hs.go
      rw [scanR_length]
      omega
    · exact ⟨none, 12, [], rfl, hb, .inr ⟨hnv, rfl⟩, .inl ⟨rfl, rfl, rfl⟩⟩
  clear hp
  obtain ⟨p, en, zss, rfl, hb1, hop, hcase⟩ := hp2
  have B1 := Lib.hid hb1
  have OP := Lib.hid hop
  have CS := Lib.hid hcase
  clear hb1 hop hcase
  refine ⟨_, rfl, ?_⟩
  refine lin_now 2 (.tuple #[.pointer p, .int .i64 en]) (some 7) (by kernel_rfl) (by kernel_rfl) (by kernel_rfl) ?_
  refine lin_now 3 (.pointer p) (some 10) (by kernel_rfl) (by kernel_rfl) (by kernel_rfl) ?_
  refine lin_now 4 (.int .i64 en) (some 11) (by kernel_rfl) (by kernel_rfl) (by kernel_rfl) ?_
  refine lin_now 5 (.pointer p) (some 4) (by kernel_rfl) (by kernel_rfl) (by kernel_rfl) ?_
  refine lin_now 6 (.int .i64 en) (some 5) (by kernel_rfl) (by kernel_rfl) (by kernel_rfl) ?_
  refine lin_done 7 (by kernel_rfl) ?_
  generalize hact : Act.put _ (some 5) _ = act
  simp only [Act.put, List.setIfInBounds_toArray, List.set_cons_succ, List.set_cons_zero] at hact
  subst hact
  have ne : (en == 11) = false := by rcases CS.out with ⟨_, h, _⟩ | ⟨h, _⟩ <;> rw [h] <;> rfl
  go_upto_region 4 with (fail)
  obtain ⟨q, hq⟩ : ∃ q, Hid (w1.heap.size = q) := ⟨_, rfl⟩
  refine lin_begin (opsOf Tryd.f10 4) (by kernel_rfl) ?_
  refine lin_now 0 (.pointer (some ⟨d, 0, none⟩)) (some 15) (by kernel_rfl) (by kernel_rfl) (by kernel_rfl) ?_
  have m2 := mp_new w1
  have B2 : Hid (Below w1.heap.size w1 (w1.alloc (.map #[] 0))) := (Below.refl _ _).alloc (Nat.le_refl _) _
  have S2 : Hid ((w1.alloc (.map #[] 0)).heap.size = q + 1) := by unfold Hid; simp [hq.out]
  have hrm := run_makeMap (P := Tryd.prog) 71 w1
  rw [hq.out] at m2 hrm
  generalize w1.alloc (.map #[] 0) = w2 at m2 B2 S2 hrm
  have M2 := Lib.hid m2
  clear m2
  refine lin_value 1 (.map (some q)) (some 16) w2 (by kernel_rfl) (by kernel_rfl) (exec_of (Instr.makeMap 71 none) _ (by kernel_rfl) hrm) ?_
  refine lin_now 2 (.agg (vcells d none (.slice none 0 0) q).toArray) (some 17) (by kernel_rfl) (by kernel_rfl) (exec_of (Instr.build 73 #[(0, .pointer (some ⟨d, 0, none⟩)), (3, .map (some q))]) _ (by kernel_rfl) (run_build_vault d q _)) ?_
  refine lin_box 3 73 (.tmp 17) (vcells d none (.slice none 0 0) q) ((q + 1)) (some 18) (by kernel_rfl) (by kernel_rfl) (by kernel_rfl) (by kernel_rfl) S2 ?_
  intro w3 b3 be3 hs3
  refine lin_now 4 (.pointer (some ⟨q + 1, 0, none⟩)) (some 6) (by kernel_rfl) (by kernel_rfl) (by kernel_rfl) ?_
  refine lin_done 5 (by kernel_rfl) ?_
  have QW : Hid (w.heap.size ≤ q) := by unfold Hid; rw [← hq.out]; exact B1.out.size
  have V3 : Hid (Vm w3 F (q + 1) d none (.slice none 0 0) q []) := vm_new b3 (M2.out.same (be3.block q (by omega))) (fun k hk => by have := FB.out k hk; have := QW.out; omega)
  have B13 : Hid (Below w1.heap.size w1 w3) := B2.out.trans (be3.mono (by rw [hq.out]; omega))
  have B3 : Hid (Below w.heap.size w w3) := B1.out.trans (B13.out.mono B1.out.size)
  have S3 : Hid (w3.heap.size = q + 2) := hs3
  clear b3 be3 hs3 hrm M2 B2 S2
  generalize hact : Act.put _ (some 6) _ = act
  simp only [Act.put, List.setIfInBounds_toArray, List.set_cons_succ, List.set_cons_zero] at hact
  subst hact
  rcases CS.out with ⟨rfl, rfl, rfl⟩ | ⟨rfl, ab, f, A, g, nx, rfl, har, hzl, hzb⟩
  · have ENL : Hid (([] : List Ent).length ≤ 5000) := Nat.zero_le _
    clear CS
    have N5 : Hid ((([] : List Ent).map (·.1)).map (recOf ([] : List Ent)) = ([] : List Ent).map packE) := recs_eq V3.out.nodup
    have c2 := V3.out.c2
    obtain ⟨kva, kvc, ekv⟩ := row_slice V3.out.hk
    have GE : Hid (∀ k ∈ ([] : List Ent).map (·.1), goodK k) := fun k hk => by
      obtain ⟨e, he, rfl⟩ := List.mem_map.1 hk
      exact V3.out.good e he
    have D5 : Hid (Dk w3 F d sz seen dur pend left) := HD.out.below B3.out
    go_upto_region 7 with (fail)
    refine lin_begin (opsOf Tryd.f10 7) (by kernel_rfl) ?_
    refine lin_now 0 (.pointer (some ⟨q + 1, 0, none⟩)) (some 25) (by kernel_rfl) (by kernel_rfl) (by kernel_rfl) ?_
    refine lin_now 1 (.pointer (some ⟨q + 1, 0, none⟩)) (some 26) (by kernel_rfl) (by kernel_rfl) (by kernel_rfl) ?_
    refine lin_now 2 (.pointer (some ⟨q + 1, 0, none⟩)) (some 27) (by kernel_rfl) (by kernel_rfl) (by kernel_rfl) ?_
    refine lin_now 3 (.pointer (some ⟨q + 1, 2, none⟩)) (some 28) (by kernel_rfl) (by kernel_rfl) (by kernel_rfl) ?_
    refine lin_now 4 (.slice none 0 0) (some 29) (by kernel_rfl) (by kernel_rfl) (exec_load_cell 33 (.tmp 28) (by kernel_rfl) (q + 1) 2 (by kernel_rfl) _ c2 _ Tryd.underlying33 rfl) ?_
    refine lin_call 5 36 #[.pointer (some ⟨q + 1, 0, none⟩), .slice none 0 0] (some 30) _ (by kernel_rfl) (by kernel_rfl) (by kernel_rfl) (vbegin_walk (vfoot (q + 1) q (.slice none 0 0)) F F (q + 1) d sz seen dur pend left none (.slice none 0 0) q (([] : List Ent)) (.slice none 0 0) (([] : List Ent).map (·.1)) _ V3.out (fun hc => by have := FB.out (q + 1) hc; have := QW.out; omega) D5.out V3.out.own.in GE.out (by rw [List.length_map]; exact (by have := ENL.out; omega)) V3.out.lt h4 HBY.out (HK.out.below B3.out HK.out.lt) HKF.out hlm hpm) ?_
    intro e w7 hp7
    obtain ⟨b, rfl⟩ := hp7.bool
    rw [N5.out] at hp7
    have P7 := Lib.hid hp7
    clear hp7
    refine ⟨_, rfl, ?_⟩
    refine lin_done 6 (by kernel_rfl) ?_
    clear c2
    generalize hact : Act.put _ (some 30) _ = act
    simp only [Act.put, List.setIfInBounds_toArray, List.set_cons_succ, List.set_cons_zero] at hact
    subst hact
    go_wp2
    go_ret2
    exact ⟨q + 1, q, _, [], [], w3, b, rfl, OP.out, rfl, V3.out, B3.out, fun k hk => by
      have h2 : k = q + 1 ∨ k = q := by simpa [vfoot, Value.ownBlock] using hk
      have := QW.out
      omega, P7.out⟩
  · have AR := Lib.hid (har.below B13.out)
    have ZL := Lib.hid hzl
    have ZB := Lib.hid hzb
    clear har hzl hzb CS
    go_upto_region 6 with (fail)
    refine lin_begin (opsOf Tryd.f10 6) (by kernel_rfl) ?_
    refine lin_now 0 (.pointer (some ⟨q + 1, 0, none⟩)) (some 21) (by kernel_rfl) (by kernel_rfl) (by kernel_rfl) ?_
    refine lin_now 1 (.pointer (some ⟨ab, 0, none⟩)) (some 22) (by kernel_rfl) (by kernel_rfl) (by kernel_rfl) ?_
    refine lin_call 2 35 #[.pointer (some ⟨ab, 0, none⟩)] (some 23) _ (by kernel_rfl) (by kernel_rfl) (by kernel_rfl) (records_walk AR.out (by have := ZL.out; omega)) ?_
    rintro e w4 ⟨rv, rfl, hnr, hb4⟩
    have V4 := Lib.hid (V3.out.below hb4)
    have B4 : Hid (Below w.heap.size w w4) := B3.out.trans (hb4.mono B3.out.size)
    have PO : Hid (PartsOff (vfoot (q + 1) q (.slice none 0 0)) w4 rv zss) := (hnr.rws (F := vfoot (q + 1) q (.slice none 0 0)) (fun k hk => .inl (by
      have h2 : k = q + 1 ∨ k = q := by simpa [vfoot, Value.ownBlock] using hk
      have := S3.out
      omega))).parts (fun zs hz => by obtain ⟨_, _, hx⟩ := AR.out; have := hx.short zs hz; omega) (by have := ZL.out; omega) (fun k hk => hk) (fun g hg hc => by
      have h1 := (hnr.own g hg).1
      have h2 : g = q + 1 ∨ g = q := by simpa [vfoot, Value.ownBlock] using hc
      have := S3.out
      omega)
    clear hnr hb4
    refine ⟨_, rfl, ?_⟩
    refine lin_call 3 34 #[.pointer (some ⟨q + 1, 0, none⟩), rv] (some 24) _ (by kernel_rfl) (by kernel_rfl) (by kernel_rfl) (load_walk F (q + 1) d _ q rv zss _ V4.out (fun k hk => Nat.lt_of_lt_of_le (FB.out k hk) B4.out.size) PO.out ZL.out ZB.out) ?_
    rintro e w5 ⟨kv, rfl, hv5, hs5⟩
    have V5 := Lib.hid hv5
    have S5 := Lib.hid hs5
    have B5 : Hid (Below w.heap.size w w5) := ⟨hs5.os.trans B4.out.os, hs5.tape.trans B4.out.tape, hs5.output.trans B4.out.output, Nat.le_trans B4.out.size hs5.size, fun k hk => (hs5.block k (Nat.lt_of_lt_of_le hk B4.out.size) (fun hc => by
      have h2 : k = q + 1 ∨ k = q := by simpa [vfoot, Value.ownBlock] using hc
      have := QW.out
      omega)).trans (B4.out.block k hk)⟩
    have FT : Hid (∀ k ∈ vfoot (q + 1) q kv, w.heap.size ≤ k) := fun k hk => by
      rcases hs5.fresh k hk with h | h
      · have h2 : k = q + 1 ∨ k = q := by simpa [vfoot, Value.ownBlock] using h
        have := QW.out
        omega
      · exact Nat.le_trans B4.out.size h
    clear hv5 hs5
    refine ⟨_, rfl, ?_⟩
    refine lin_done 4 (by kernel_rfl) ?_
    generalize hact : Act.put _ (some 24) _ = act
    simp only [Act.put, List.setIfInBounds_toArray, List.set_cons_succ, List.set_cons_zero] at hact
    subst hact
    obtain ⟨es, hes⟩ : ∃ es, Hid (entsK zss zss.length = es) := ⟨_, rfl⟩
    rw [hes.out] at V5
    have ENL : Hid (es.length ≤ 5000) := by unfold Hid; rw [← hes.out]; exact Nat.le_trans (entsK_length zss _) ZL.out
    have N5 : Hid ((es.map (·.1)).map (recOf es) = es.map packE) := recs_eq V5.out.nodup
    have c2 := V5.out.c2
    obtain ⟨kva, kvc, ekv⟩ := row_slice V5.out.hk
    have GE : Hid (∀ k ∈ es.map (·.1), goodK k) := fun k hk => by
      obtain ⟨e, he, rfl⟩ := List.mem_map.1 hk
      exact V5.out.good e he
    have D5 : Hid (Dk w5 F d sz seen dur pend left) := HD.out.below B5.out
    go_upto_region 7 with (fail)
    refine lin_begin (opsOf Tryd.f10 7) (by kernel_rfl) ?_
    refine lin_now 0 (.pointer (some ⟨q + 1, 0, none⟩)) (some 25) (by kernel_rfl) (by kernel_rfl) (by kernel_rfl) ?_
    refine lin_now 1 (.pointer (some ⟨q + 1, 0, none⟩)) (some 26) (by kernel_rfl) (by kernel_rfl) (by kernel_rfl) ?_
    refine lin_now 2 (.pointer (some ⟨q + 1, 0, none⟩)) (some 27) (by kernel_rfl) (by kernel_rfl) (by kernel_rfl) ?_
    refine lin_now 3 (.pointer (some ⟨q + 1, 2, none⟩)) (some 28) (by kernel_rfl) (by kernel_rfl) (by kernel_rfl) ?_
    refine lin_now 4 (kv) (some 29) (by kernel_rfl) (by kernel_rfl) (exec_load_cell 33 (.tmp 28) (by kernel_rfl) (q + 1) 2 (by kernel_rfl) _ c2 _ Tryd.underlying33 rfl) ?_
    refine lin_call 5 36 #[.pointer (some ⟨q + 1, 0, none⟩), kv] (some 30) _ (by kernel_rfl) (by kernel_rfl) (by kernel_rfl) (vbegin_walk (vfoot (q + 1) q (kv)) F F (q + 1) d sz seen dur pend left none (kv) q (es) (kv) (es.map (·.1)) _ V5.out (fun hc => by have := FB.out (q + 1) hc; have := QW.out; omega) D5.out V5.out.own.in GE.out (by rw [List.length_map]; exact (by have := ENL.out; omega)) V5.out.lt h4 HBY.out (HK.out.below B5.out HK.out.lt) HKF.out hlm hpm) ?_
    intro e w7 hp7
    obtain ⟨b, rfl⟩ := hp7.bool
    rw [N5.out] at hp7
    have P7 := Lib.hid hp7
    clear hp7
    refine ⟨_, rfl, ?_⟩
    refine lin_done 6 (by kernel_rfl) ?_
    clear c2
    generalize hact : Act.put _ (some 30) _ = act
    simp only [Act.put, List.setIfInBounds_toArray, List.set_cons_succ, List.set_cons_zero] at hact
    subst hact
    go_wp2
    go_ret2
    exact ⟨q + 1, q, kv, es, zss, w5, b, rfl, OP.out, hes.out.symm, V5.out, B5.out, FT.out, P7.out⟩
end Go.Proofs.YtngpmilojfbpmaaDoor
/- Package vault: Put. -/
namespace Go.Proofs.YtngpmilojfbpmaaDoor
open Go Go.RowKit
set_option maxRecDepth 100000

theorem bequal_b (v1 v2 : Value) (xs ys : List Int) (b : Bool) (hb : decide (xs = ys) = b) (w : World) (h1 : BytesIn w v1 xs) (h2 : BytesIn w v2 ys) (hx : isBytes xs) (hy : isBytes ys) :
    Calls Tryd.prog 37 #[v1, v2] w fun e w' => e = .returned (.bool b) ∧ w = w' := by
  subst hb; exact bequal_walk v1 v2 xs ys w h1 h2 hx hy
section
variable {w : World} {G : List Nat} {vb d : Nat} {ap : Option Addr} {kv : Value} {mb : Nat} {es : List Ent} {k zs : List Int}
theorem vput_long (vb : Nat) (ua : Option Addr) (m uc : Nat) (hk : goodK k) (hm : 1000 < m) : Calls Tryd.prog 11 #[.pointer (some ⟨vb, 0, none⟩), kval k, .slice ua m uc] w fun e w' => e = .returned (.int .i64 10) ∧ Below w.heap.size w w' := by
  show Calls Tryd.prog 11 #[.pointer (some ⟨vb, 0, none⟩), .agg (ints .u8 k).toArray, .slice ua m uc] w fun e w' => e = .returned (.int .i64 10) ∧ Below w.heap.size w w'
  obtain ⟨B, hB⟩ : ∃ B, Hid (w.heap.size = B) := ⟨_, rfl⟩
  have GK := Lib.hid hk
  clear hk
  have KS : Hid ((Tryd.prog.info? 35).map (·.size) = some (ints .u8 k).length) := blk_goodK GK.out.1
  have q1 : (1000 : Int) < (m : Int) := by omega
  go_enter Tryd.func11, Tryd.ntmps11
  go_upto_region 0 with (fail)
  refine lin_begin (opsOf Tryd.f11 0) (by kernel_rfl) ?_
  refine lin_box 0 35 (.tmp 1) (ints .u8 k) (B) (some 4) (by kernel_rfl) (by kernel_rfl) (by kernel_rfl) (by kernel_rfl) hB ?_
  intro w1 b1 be1 hs1
  refine lin_now 1 (.int .i64 0) (some 6) (by kernel_rfl) (by kernel_rfl) (by kernel_rfl) ?_
  refine lin_done 2 (by kernel_rfl) ?_
  have BL1 : Hid (Below w.heap.size w w1) := by rw [Hid, hB.out]; exact be1
  have B3 := Lib.hid b1
  clear b1 be1 hs1
  generalize hact : Act.put _ (some 6) _ = act
  simp only [Act.put, List.setIfInBounds_toArray, List.set_cons_succ, List.set_cons_zero] at hact
  subst hact
  go_wp2
  go_ret
  exact ⟨rfl, BL1.out⟩
set_option maxHeartbeats 2000000 in
theorem vput_there (u : Value) {old : List Int} (h : Vm w G vb d ap kv mb es) (hk : goodK k) (hu : BytesIn w u zs) (hz : zs.length ≤ 1000) (hzb : isBytes zs) (hval : valOf es k = some old) : Calls Tryd.prog 11 #[.pointer (some ⟨vb, 0, none⟩), kval k, u] w fun e w' => e = .returned (.int .i64 (if decide (old = zs) then 0 else 13)) ∧ Below w.heap.size w w' := by
  show Calls Tryd.prog 11 #[.pointer (some ⟨vb, 0, none⟩), .agg (ints .u8 k).toArray, u] w fun e w' => e = .returned (.int .i64 (if decide (old = zs) then 0 else 13)) ∧ Below w.heap.size w w'
  obtain ⟨ua, uc, rfl, -⟩ := id hu
  obtain ⟨m, hm⟩ : ∃ m, Hid (zs.length = m) := ⟨_, rfl⟩
  rw [hm.out] at hu hz ⊢
  have HU : Hid (BytesIn w (.slice ua m uc) zs) := hu
  have HVAL := Lib.hid hval
  have HZB := Lib.hid hzb
  obtain ⟨b, hb⟩ : ∃ b, Hid (decide (old = zs) = b) := ⟨_, rfl⟩
  rw [hb.out]
  have q1 : ¬ (1000 : Int) < (m : Int) := by omega
  clear hu hval hzb
  obtain ⟨B, hB⟩ : ∃ B, Hid (w.heap.size = B) := ⟨_, rfl⟩
  have VW := Lib.hid h
  have GK := Lib.hid hk
  clear h hk
  have KS : Hid ((Tryd.prog.info? 35).map (·.size) = some (ints .u8 k).length) := blk_goodK GK.out.1
  go_enter Tryd.func11, Tryd.ntmps11
  go_upto_region 0 with (fail)
  refine lin_begin (opsOf Tryd.f11 0) (by kernel_rfl) ?_
  refine lin_box 0 35 (.tmp 1) (ints .u8 k) (B) (some 4) (by kernel_rfl) (by kernel_rfl) (by kernel_rfl) (by kernel_rfl) hB ?_
  intro w1 b1 be1 hs1
  refine lin_now 1 (.int .i64 0) (some 6) (by kernel_rfl) (by kernel_rfl) (by kernel_rfl) ?_
  refine lin_done 2 (by kernel_rfl) ?_
  have BL1 : Hid (Below w.heap.size w w1) := by rw [Hid, hB.out]; exact be1
  have B3 := Lib.hid b1
  clear b1 be1 hs1
  generalize hact : Act.put _ (some 6) _ = act
  simp only [Act.put, List.setIfInBounds_toArray, List.set_cons_succ, List.set_cons_zero] at hact
  subst hact
  obtain ⟨vs, v, m0, hlk, hbo, hnl, hvl, hvb⟩ := VW.out.asked GK.out
  have M0 := Lib.hid m0
  obtain ⟨bo, hbo2⟩ : ∃ b, Hid ((valOf es k).isSome = b) := ⟨_, rfl⟩
  rw [hbo2.out] at hlk
  have HLK := Lib.hid hlk
  have HBO := Lib.hid hbo.in
  have HVL := Lib.hid hvl
  have HVB := Lib.hid hvb
  rw [HVAL.out] at hbo2 HBO HVL HVB
  clear m0 hlk hbo hvl hvb hnl
  go_upto_region 3 with (fail)
  refine region_begin (opsOf Tryd.f11 3) (fun w => Blk w B 35 (ints .u8 (k)) ∧ w.cell? ⟨vb, 3, none⟩ = some (.map (some mb)) ∧ Mp w mb (es.map (·.1)) vs) (by kernel_rfl) (by kernel_rfl) 11 (by kernel_rfl) ?_
  intro Q' hQN hN
  have X : Blk w1.drew B 35 (ints .u8 (k)) ∧ w1.drew.cell? ⟨vb, 3, none⟩ = some (.map (some mb)) ∧ Mp w1.drew mb (es.map (·.1)) vs := ⟨B3.out.drew, (VW.out.below BL1.out.drew).c3, M0.out.same (BL1.out.drew.block mb M0.out.lt)⟩
  refine reg_now 0 (.pointer (some ⟨vb, 0, none⟩)) (some 14) hQN X (by kernel_rfl) (by kernel_rfl) (fun w => by kernel_rfl) ?_
  refine reg_now 1 (.pointer (some ⟨vb, 0, none⟩)) (some 15) hQN X (by kernel_rfl) (by kernel_rfl) (fun w => by kernel_rfl) ?_
  refine reg_now 2 (.pointer (some ⟨vb, 3, none⟩)) (some 16) hQN X (by kernel_rfl) (by kernel_rfl) (fun w => by kernel_rfl) ?_
  refine reg_nowIf 3 (.map (some mb)) (some 17) hQN X (by kernel_rfl) (by kernel_rfl) (fun w hw => exec_load_cell 71 (.tmp 16) (by kernel_rfl) vb 3 (by kernel_rfl) _ hw.2.1 _ Tryd.underlying71 rfl) ?_
  refine reg_nowIf 4 (.agg (ints .u8 (k)).toArray) (some 18) hQN X (by kernel_rfl) (by kernel_rfl) (fun w hw => exec_load_mid 35 (.tmp 4) (by kernel_rfl) B 0 (by kernel_rfl) (ints .u8 (k)) _ hw.1.whole digUnder rfl KS.out) ?_
  refine reg_nowIf 5 (.tuple #[v, .bool bo]) (some 19) hQN X (by kernel_rfl) (by kernel_rfl) (fun w hw => exec_of (Instr.lookup 71 (.map (some mb)) (kval (k)) true) _ (by kernel_rfl) (HLK.out w hw.2.2)) ?_
  refine reg_now 6 (.tuple #[v, .bool bo]) (some 13) hQN X (by kernel_rfl) (by kernel_rfl) (fun w => by kernel_rfl) ?_
  refine reg_now 7 (v) (some 20) hQN X (by kernel_rfl) (by kernel_rfl) (fun w => by kernel_rfl) ?_
  refine reg_now 8 (.bool bo) (some 21) hQN X (by kernel_rfl) (by kernel_rfl) (fun w => by kernel_rfl) ?_
  refine reg_now 9 (v) (some 7) hQN X (by kernel_rfl) (by kernel_rfl) (fun w => by kernel_rfl) ?_
  refine reg_now 10 (.bool bo) (some 8) hQN X (by kernel_rfl) (by kernel_rfl) (fun w => by kernel_rfl) ?_
  refine reg_done (by kernel_rfl) (hN _ _ ?_)
  have BW2 : Hid (Below w.heap.size w w1.drew) := BL1.out.drew
  have B4 : Hid (Blk w1.drew B 35 (ints .u8 k)) := B3.out.drew
  generalize w1.drew = w2 at BW2 B4 ⊢
  clear X hQN hN BL1 B3
  generalize hact : Act.put _ (some 8) _ = act
  simp only [Act.put, List.setIfInBounds_toArray, List.set_cons_succ, List.set_cons_zero] at hact
  subst hact
  obtain rfl : bo = true := hbo2.out.symm
  obtain ⟨va, vc, ev, -⟩ := id HBO.out
  obtain ⟨n, hn⟩ : ∃ n, Hid (old.length = n) := ⟨_, rfl⟩
  have ev2 : v = .slice va n vc := by rw [ev, ← hn.out]; rfl
  subst ev2
  have V2 : Hid (BytesIn w2 (.slice va n vc) old) := HBO.out.below BW2.out (Nat.le_refl _)
  have U2 : Hid (BytesIn w2 (.slice ua m uc) zs) := HU.out.below BW2.out (Nat.le_refl _)
  have HVB2 : Hid (isBytes old) := HVB.out
  clear ev HBO HLK M0 HU HVB HVL
  go_wp2_with fail
  refine (bequal_b _ _ old zs b hb.out _ V2.out U2.out HVB2.out HZB.out).mono ?_
  rintro e w3 ⟨rfl, rfl⟩
  cases b with
  | true =>
    go_wp2
    go_ret
    exact ⟨rfl, BW2.out⟩
  | false =>
    go_wp2
    go_ret
    exact ⟨rfl, BW2.out⟩
set_option maxHeartbeats 2000000 in
theorem vput_unsound (ua : Option Addr) (m uc : Nat) (h : Vm w G vb d none kv mb es) (hk : goodK k) (hz : m ≤ 1000) (hval : valOf es k = none) : Calls Tryd.prog 11 #[.pointer (some ⟨vb, 0, none⟩), kval k, .slice ua m uc] w fun e w' => e = .returned (.int .i64 15) ∧ Below w.heap.size w w' := by
  show Calls Tryd.prog 11 #[.pointer (some ⟨vb, 0, none⟩), .agg (ints .u8 k).toArray, .slice ua m uc] w fun e w' => e = .returned (.int .i64 15) ∧ Below w.heap.size w w'
  have HVAL := Lib.hid hval
  have q1 : ¬ (1000 : Int) < (m : Int) := by omega
  clear hval
  obtain ⟨B, hB⟩ : ∃ B, Hid (w.heap.size = B) := ⟨_, rfl⟩
  have VW := Lib.hid h
  have GK := Lib.hid hk
  clear h hk
  have KS : Hid ((Tryd.prog.info? 35).map (·.size) = some (ints .u8 k).length) := blk_goodK GK.out.1
  go_enter Tryd.func11, Tryd.ntmps11
  go_upto_region 0 with (fail)
  refine lin_begin (opsOf Tryd.f11 0) (by kernel_rfl) ?_
  refine lin_box 0 35 (.tmp 1) (ints .u8 k) (B) (some 4) (by kernel_rfl) (by kernel_rfl) (by kernel_rfl) (by kernel_rfl) hB ?_
  intro w1 b1 be1 hs1
  refine lin_now 1 (.int .i64 0) (some 6) (by kernel_rfl) (by kernel_rfl) (by kernel_rfl) ?_
  refine lin_done 2 (by kernel_rfl) ?_
  have BL1 : Hid (Below w.heap.size w w1) := by rw [Hid, hB.out]; exact be1
  have B3 := Lib.hid b1
  clear b1 be1 hs1
  generalize hact : Act.put _ (some 6) _ = act
  simp only [Act.put, List.setIfInBounds_toArray, List.set_cons_succ, List.set_cons_zero] at hact
  subst hact
  obtain ⟨vs, v, m0, hlk, hbo, hnl, hvl, hvb⟩ := VW.out.asked GK.out
  have M0 := Lib.hid m0
  obtain ⟨bo, hbo2⟩ : ∃ b, Hid ((valOf es k).isSome = b) := ⟨_, rfl⟩
  rw [hbo2.out] at hlk
  have HLK := Lib.hid hlk
  have HBO := Lib.hid hbo.in
  have HVL := Lib.hid hvl
  have HVB := Lib.hid hvb
  rw [HVAL.out] at hbo2 HBO HVL HVB
  clear m0 hlk hbo hvl hvb hnl
  go_upto_region 3 with (fail)
  refine region_begin (opsOf Tryd.f11 3) (fun w => Blk w B 35 (ints .u8 (k)) ∧ w.cell? ⟨vb, 3, none⟩ = some (.map (some mb)) ∧ Mp w mb (es.map (·.1)) vs) (by kernel_rfl) (by kernel_rfl) 11 (by kernel_rfl) ?_
  intro Q' hQN hN
  have X : Blk w1.drew B 35 (ints .u8 (k)) ∧ w1.drew.cell? ⟨vb, 3, none⟩ = some (.map (some mb)) ∧ Mp w1.drew mb (es.map (·.1)) vs := ⟨B3.out.drew, (VW.out.below BL1.out.drew).c3, M0.out.same (BL1.out.drew.block mb M0.out.lt)⟩
  refine reg_now 0 (.pointer (some ⟨vb, 0, none⟩)) (some 14) hQN X (by kernel_rfl) (by kernel_rfl) (fun w => by kernel_rfl) ?_
  refine reg_now 1 (.pointer (some ⟨vb, 0, none⟩)) (some 15) hQN X (by kernel_rfl) (by kernel_rfl) (fun w => by kernel_rfl) ?_
  refine reg_now 2 (.pointer (some ⟨vb, 3, none⟩)) (some 16) hQN X (by kernel_rfl) (by kernel_rfl) (fun w => by kernel_rfl) ?_
  refine reg_nowIf 3 (.map (some mb)) (some 17) hQN X (by kernel_rfl) (by kernel_rfl) (fun w hw => exec_load_cell 71 (.tmp 16) (by kernel_rfl) vb 3 (by kernel_rfl) _ hw.2.1 _ Tryd.underlying71 rfl) ?_
  refine reg_nowIf 4 (.agg (ints .u8 (k)).toArray) (some 18) hQN X (by kernel_rfl) (by kernel_rfl) (fun w hw => exec_load_mid 35 (.tmp 4) (by kernel_rfl) B 0 (by kernel_rfl) (ints .u8 (k)) _ hw.1.whole digUnder rfl KS.out) ?_
  refine reg_nowIf 5 (.tuple #[v, .bool bo]) (some 19) hQN X (by kernel_rfl) (by kernel_rfl) (fun w hw => exec_of (Instr.lookup 71 (.map (some mb)) (kval (k)) true) _ (by kernel_rfl) (HLK.out w hw.2.2)) ?_
  refine reg_now 6 (.tuple #[v, .bool bo]) (some 13) hQN X (by kernel_rfl) (by kernel_rfl) (fun w => by kernel_rfl) ?_
  refine reg_now 7 (v) (some 20) hQN X (by kernel_rfl) (by kernel_rfl) (fun w => by kernel_rfl) ?_
  refine reg_now 8 (.bool bo) (some 21) hQN X (by kernel_rfl) (by kernel_rfl) (fun w => by kernel_rfl) ?_
  refine reg_now 9 (v) (some 7) hQN X (by kernel_rfl) (by kernel_rfl) (fun w => by kernel_rfl) ?_
  refine reg_now 10 (.bool bo) (some 8) hQN X (by kernel_rfl) (by kernel_rfl) (fun w => by kernel_rfl) ?_
  refine reg_done (by kernel_rfl) (hN _ _ ?_)
  have BW2 : Hid (Below w.heap.size w w1.drew) := BL1.out.drew
  have B4 : Hid (Blk w1.drew B 35 (ints .u8 k)) := B3.out.drew
  generalize w1.drew = w2 at BW2 B4 ⊢
  clear X hQN hN BL1 B3
  generalize hact : Act.put _ (some 8) _ = act
  simp only [Act.put, List.setIfInBounds_toArray, List.set_cons_succ, List.set_cons_zero] at hact
  subst hact
  obtain rfl : bo = false := hbo2.out.symm
  have V2 := Lib.hid (VW.out.below BW2.out)
  clear HBO HLK M0 HVB HVL
  go_wp2_with fail
  refine (vsound_walk V2.out).mono ?_
  rintro e w3 ⟨rfl, rfl⟩
  go_wp2
  go_ret
  exact ⟨rfl, BW2.out⟩
end
theorem vadd_full {w : World} {A E F : List Nat} {ab d first half gen next : Nat} {recs : List (List Int)} (h : Ar w A (E ++ F) ab d first half gen next false recs) (u : Value) (rec : List Int) (hu : BytesOff (A ++ F) w u rec) (hnl : NilOk u) (hK : KW w) (hl : rec.length ≤ 2000) (hg1 : 1 ≤ gen) (hg2 : gen ≤ 4294967295) (hnh : next ≤ half) (hhm : half ≤ 4096) (hfit : half - next < needN rec.length) :
    Calls Tryd.prog 38 #[.pointer (some ⟨ab, 0, none⟩), u] w fun e w' => e = .returned (.int .i64 15) ∧ Below w.heap.size w w' := by
  suffices h2 : Ar w A [] ab d first half gen next false recs by
    exact add_full h2 u rec (hu.sub (fun k hk => List.mem_append_left _ (by simpa using hk))) hnl hK hl hg1 hg2 hnh hhm (.inr hfit)
  obtain ⟨rv, rfl, hx⟩ := h
  obtain ⟨vs, h1, h2⟩ := hx.hr
  exact ⟨rv, rfl, ⟨hx.hb, ⟨vs, h1, fun i v zs hv hz => ⟨(h2 i v zs hv hz).1.sub (fun k hk => List.mem_append_left _ (by simpa using hk)), (h2 i v zs hv hz).2⟩⟩, hx.n1, fun k _ => by simp, hx.short⟩⟩
set_option maxHeartbeats 4000000 in
theorem vput_full {w : World} {A F : List Nat} {vb d sz ab first gen next : Nat} {kv : Value} {mb : Nat} {es : List Ent} {k zs : List Int} (u : Value) (h : Vm w (A ++ F) vb d (some ⟨ab, 0, none⟩) kv mb es) (ha : Ar w A (vfoot vb mb kv ++ F) ab d first (sz / 2) gen next false (es.map packE)) (hk : goodK k) (hu : BytesOff (vfoot vb mb kv ++ (A ++ F)) w u zs) (hnl : NilOk u) (hz : zs.length ≤ 1000) (hval : valOf es k = none) (hK : KW w) (hg1 : 1 ≤ gen) (hg2 : gen ≤ 4294967295) (hnh : next ≤ sz / 2) (hsz : sz ≤ 4096) (hAF : ∀ x ∈ A ++ F, x < w.heap.size) (hfit : sz / 2 - next < needN (32 + zs.length)) :
    Calls Tryd.prog 11 #[.pointer (some ⟨vb, 0, none⟩), kval k, u] w fun e w' => e = .returned (.int .i64 15) ∧ Below w.heap.size w w' := by
  show Calls Tryd.prog 11 #[.pointer (some ⟨vb, 0, none⟩), .agg (ints .u8 k).toArray, u] w fun e w' => e = .returned (.int .i64 15) ∧ Below w.heap.size w w'
  have AFL0 : Hid (∀ x ∈ A ++ F, x < w.heap.size) := hAF
  obtain ⟨half, hhf⟩ : ∃ half, Hid (sz / 2 = half) := ⟨_, rfl⟩
  rw [hhf.out] at ha hnh
  have hhm : half ≤ 4096 := by have := hhf.out; omega
  obtain ⟨ua, uc, rfl, -⟩ := id hu
  obtain ⟨m, hm⟩ : ∃ m, Hid (zs.length = m) := ⟨_, rfl⟩
  rw [hm.out] at hu hz hnl hfit ⊢
  have HU := Lib.hid hu
  have HNL := Lib.hid hnl
  have HA := Lib.hid ha
  have HK := Lib.hid hK
  have HVAL := Lib.hid hval
  have q1 : ¬ (1000 : Int) < (m : Int) := by omega
  clear hu hval hnl ha hK
  obtain ⟨B, hB⟩ : ∃ B, Hid (w.heap.size = B) := ⟨_, rfl⟩
  have VW := Lib.hid h
  have GK := Lib.hid hk
  clear h hk
  have KS : Hid ((Tryd.prog.info? 35).map (·.size) = some (ints .u8 k).length) := blk_goodK GK.out.1
  go_enter Tryd.func11, Tryd.ntmps11
  go_upto_region 0 with (fail)
  refine lin_begin (opsOf Tryd.f11 0) (by kernel_rfl) ?_
  refine lin_box 0 35 (.tmp 1) (ints .u8 k) (B) (some 4) (by kernel_rfl) (by kernel_rfl) (by kernel_rfl) (by kernel_rfl) hB ?_
  intro w1 b1 be1 hs1
  refine lin_now 1 (.int .i64 0) (some 6) (by kernel_rfl) (by kernel_rfl) (by kernel_rfl) ?_
  refine lin_done 2 (by kernel_rfl) ?_
  have BL1 : Hid (Below w.heap.size w w1) := by rw [Hid, hB.out]; exact be1
  have B3 := Lib.hid b1
  clear b1 be1 hs1
  generalize hact : Act.put _ (some 6) _ = act
  simp only [Act.put, List.setIfInBounds_toArray, List.set_cons_succ, List.set_cons_zero] at hact
  subst hact
  obtain ⟨vs, v, m0, hlk, hbo, hnl, hvl, hvb⟩ := VW.out.asked GK.out
  have M0 := Lib.hid m0
  obtain ⟨bo, hbo2⟩ : ∃ b, Hid ((valOf es k).isSome = b) := ⟨_, rfl⟩
  rw [hbo2.out] at hlk
  have HLK := Lib.hid hlk
  have HBO := Lib.hid hbo.in
  have HVL := Lib.hid hvl
  have HVB := Lib.hid hvb
  rw [HVAL.out] at hbo2 HBO HVL HVB
  clear m0 hlk hbo hvl hvb hnl
  go_upto_region 3 with (fail)
  refine region_begin (opsOf Tryd.f11 3) (fun w => Blk w B 35 (ints .u8 (k)) ∧ w.cell? ⟨vb, 3, none⟩ = some (.map (some mb)) ∧ Mp w mb (es.map (·.1)) vs) (by kernel_rfl) (by kernel_rfl) 11 (by kernel_rfl) ?_
  intro Q' hQN hN
  have X : Blk w1.drew B 35 (ints .u8 (k)) ∧ w1.drew.cell? ⟨vb, 3, none⟩ = some (.map (some mb)) ∧ Mp w1.drew mb (es.map (·.1)) vs := ⟨B3.out.drew, (VW.out.below BL1.out.drew).c3, M0.out.same (BL1.out.drew.block mb M0.out.lt)⟩
  refine reg_now 0 (.pointer (some ⟨vb, 0, none⟩)) (some 14) hQN X (by kernel_rfl) (by kernel_rfl) (fun w => by kernel_rfl) ?_
  refine reg_now 1 (.pointer (some ⟨vb, 0, none⟩)) (some 15) hQN X (by kernel_rfl) (by kernel_rfl) (fun w => by kernel_rfl) ?_
  refine reg_now 2 (.pointer (some ⟨vb, 3, none⟩)) (some 16) hQN X (by kernel_rfl) (by kernel_rfl) (fun w => by kernel_rfl) ?_
  refine reg_nowIf 3 (.map (some mb)) (some 17) hQN X (by kernel_rfl) (by kernel_rfl) (fun w hw => exec_load_cell 71 (.tmp 16) (by kernel_rfl) vb 3 (by kernel_rfl) _ hw.2.1 _ Tryd.underlying71 rfl) ?_
  refine reg_nowIf 4 (.agg (ints .u8 (k)).toArray) (some 18) hQN X (by kernel_rfl) (by kernel_rfl) (fun w hw => exec_load_mid 35 (.tmp 4) (by kernel_rfl) B 0 (by kernel_rfl) (ints .u8 (k)) _ hw.1.whole digUnder rfl KS.out) ?_
  refine reg_nowIf 5 (.tuple #[v, .bool bo]) (some 19) hQN X (by kernel_rfl) (by kernel_rfl) (fun w hw => exec_of (Instr.lookup 71 (.map (some mb)) (kval (k)) true) _ (by kernel_rfl) (HLK.out w hw.2.2)) ?_
  refine reg_now 6 (.tuple #[v, .bool bo]) (some 13) hQN X (by kernel_rfl) (by kernel_rfl) (fun w => by kernel_rfl) ?_
  refine reg_now 7 (v) (some 20) hQN X (by kernel_rfl) (by kernel_rfl) (fun w => by kernel_rfl) ?_
  refine reg_now 8 (.bool bo) (some 21) hQN X (by kernel_rfl) (by kernel_rfl) (fun w => by kernel_rfl) ?_
  refine reg_now 9 (v) (some 7) hQN X (by kernel_rfl) (by kernel_rfl) (fun w => by kernel_rfl) ?_
  refine reg_now 10 (.bool bo) (some 8) hQN X (by kernel_rfl) (by kernel_rfl) (fun w => by kernel_rfl) ?_
  refine reg_done (by kernel_rfl) (hN _ _ ?_)
  have BW2 : Hid (Below w.heap.size w w1.drew) := BL1.out.drew
  have B4 : Hid (Blk w1.drew B 35 (ints .u8 k)) := B3.out.drew
  generalize w1.drew = w2 at BW2 B4 ⊢
  clear X hQN hN BL1 B3
  generalize hact : Act.put _ (some 8) _ = act
  simp only [Act.put, List.setIfInBounds_toArray, List.set_cons_succ, List.set_cons_zero] at hact
  subst hact
  obtain rfl : bo = false := hbo2.out.symm
  have V2 := Lib.hid (VW.out.below BW2.out)
  have A2 := Lib.hid (HA.out.below BW2.out)
  clear HBO HLK M0 HVB HVL
  go_wp2_with fail
  refine (vsound_walk V2.out).mono ?_
  rintro e w3 ⟨rfl, rfl⟩
  go_upto_region 10 with (fail)
  refine region_begin (opsOf Tryd.f11 10) (fun w => Blk w B 35 (ints .u8 k) ∧ w.cell? ⟨vb, 1, none⟩ = some (.pointer (some ⟨ab, 0, none⟩))) (by kernel_rfl) (by kernel_rfl) 9 (by kernel_rfl) ?_
  intro Q' hQN hN
  have X : Blk w2.drew B 35 (ints .u8 k) ∧ w2.drew.cell? ⟨vb, 1, none⟩ = some (.pointer (some ⟨ab, 0, none⟩)) := ⟨B4.out.drew, (VW.out.below BW2.out.drew).c1⟩
  have BW3 : Hid (Below w.heap.size w w2.drew) := BW2.out.drew
  generalize w2.drew = w3 at X BW3 ⊢
  refine reg_now 0 (.pointer (some ⟨vb, 0, none⟩)) (some 30) hQN X (by kernel_rfl) (by kernel_rfl) (fun w => by kernel_rfl) ?_
  refine reg_now 1 (.pointer (some ⟨vb, 0, none⟩)) (some 31) hQN X (by kernel_rfl) (by kernel_rfl) (fun w => by kernel_rfl) ?_
  refine reg_now 2 (.pointer (some ⟨vb, 1, none⟩)) (some 32) hQN X (by kernel_rfl) (by kernel_rfl) (fun w => by kernel_rfl) ?_
  refine reg_nowIf 3 (.pointer (some ⟨ab, 0, none⟩)) (some 33) hQN X (by kernel_rfl) (by kernel_rfl) (fun w hw => exec_load_cell 68 (.tmp 32) (by kernel_rfl) vb 1 (by kernel_rfl) _ hw.2 _ Tryd.underlying68 rfl) ?_
  refine reg_nowIf 4 (.agg (ints .u8 k).toArray) (some 34) hQN X (by kernel_rfl) (by kernel_rfl) (fun w hw => exec_load_mid 35 (.tmp 4) (by kernel_rfl) B 0 (by kernel_rfl) (ints .u8 k) _ hw.1.whole digUnder rfl KS.out) ?_
  refine reg_now 5 (.slice ua m uc) (some 35) hQN X (by kernel_rfl) (by kernel_rfl) (fun w => by kernel_rfl) ?_
  refine reg_call 6 39 #[.agg (ints .u8 k).toArray, .slice ua m uc] (some 36) _ (by kernel_rfl) (by kernel_rfl) (by kernel_rfl) (pack_walk k _ zs _ GK.out (HU.out.in.below BW3.out (Nat.le_refl _)) HNL.out (by rw [hm.out]; exact hz)) ?_
  rintro e w5 ⟨v5, rfl, ho5, hb5⟩
  have BW5 : Hid (Below w.heap.size w w5) := BW3.out.trans (hb5.mono BW3.out.size)
  have X5 : Blk w5 B 35 (ints .u8 k) ∧ w5.cell? ⟨vb, 1, none⟩ = some (.pointer (some ⟨ab, 0, none⟩)) := ⟨X.1.below hb5 X.1.lt, (VW.out.below BW5.out).c1⟩
  have AFL : Hid (∀ x ∈ A ++ F, x < w.heap.size) := AFL0.out
  have R5 : Hid (BytesOff (A ++ F) w5 v5 (k ++ zs)) := owns_off ho5 (fun x hx => by have := AFL.out x hx; have := BW3.out.size; omega)
  have N5 : Hid (NilOk v5) := owns_nilok ho5
  have A5 := Lib.hid (HA.out.below BW5.out)
  have RL : Hid ((k ++ zs).length = 32 + m) := by unfold Hid; rw [List.length_append, GK.out.1, hm.out]
  clear ho5 hb5
  refine ⟨_, rfl, X5, ?_⟩
  refine reg_call 7 38 #[.pointer (some ⟨ab, 0, none⟩), v5] (some 37) _ (by kernel_rfl) (by kernel_rfl) (by kernel_rfl) (vadd_full A5.out v5 (k ++ zs) R5.out N5.out (HK.out.below BW5.out HK.out.lt) (by rw [RL.out]; omega) hg1 hg2 hnh hhm (by rw [RL.out, ← hhf.out]; exact hfit)) ?_
  rintro e w6 ⟨rfl, hb6⟩
  have BW6 : Hid (Below w.heap.size w w6) := BW5.out.trans (hb6.mono BW5.out.size)
  have X6 : Blk w6 B 35 (ints .u8 k) ∧ w6.cell? ⟨vb, 1, none⟩ = some (.pointer (some ⟨ab, 0, none⟩)) := ⟨X5.1.below hb6 X5.1.lt, (VW.out.below BW6.out).c1⟩
  refine ⟨_, rfl, X6, ?_⟩
  refine reg_now 8 (.int .i64 15) (some 9) hQN X6 (by kernel_rfl) (by kernel_rfl) (fun w => by kernel_rfl) ?_
  refine reg_done (by kernel_rfl) (hN _ _ ?_)
  have V6 := Lib.hid (VW.out.below BW6.out)
  have A6 := Lib.hid (HA.out.below BW6.out)
  have c1 := V6.out.c1
  clear hb6 X5 X6 X hQN hN A5 N5 R5 BW5 BW3 BW2 B4 V2 A2
  generalize hact : Act.put _ (some 9) _ = act
  simp only [Act.put, List.setIfInBounds_toArray, List.set_cons_succ, List.set_cons_zero] at hact
  subst hact
  go_wp2_with fail
  refine (arstuck_walk A6.out).mono ?_
  rintro e w7 ⟨rfl, rfl⟩
  go_wp2
  go_ret
  exact ⟨rfl, BW6.out⟩
def VpStop (A F : List Nat) (vb d sz first gen next : Nat) (kv : Value) (mb : Nat) (es : List Ent) (k zs : List Int) (seen dur : List Int) (pend : List Wr) (left : Int) (w : World) (e : Ending) (w' : World) : Prop :=
  e = .returned (.int .i64 15) ∧ ∃ F', Vm w' (A ++ F') vb d none kv mb es ∧ Dk w' F' d sz (putsK seen (first + next) (packF gen next (k ++ zs)) (doneN left (needN (32 + zs.length)))) dur (pend ++ wrsAt (first + next) (packF gen next (k ++ zs)) (doneN left (needN (32 + zs.length)))) (leftK left (doneN left (needN (32 + zs.length)))) ∧ Step (vfoot vb mb kv ++ (A ++ F)) w (vfoot vb mb kv ++ (A ++ F')) w'
set_option maxHeartbeats 4000000 in
theorem vput_stop {w : World} {A F : List Nat} {vb d sz ab first gen next : Nat} {kv : Value} {mb : Nat} {es : List Ent} {k zs : List Int} {seen dur : List Int} {pend : List Wr} {left : Int} (u : Value) (h : Vm w (A ++ F) vb d (some ⟨ab, 0, none⟩) kv mb es) (ha : Ar w A (vfoot vb mb kv ++ F) ab d first (sz / 2) gen next false (es.map packE)) (hk : goodK k) (hu : BytesOff (vfoot vb mb kv ++ (A ++ F)) w u zs) (hnl : NilOk u) (hz : zs.length ≤ 1000) (hval : valOf es k = none) (hK : KW w) (hg1 : 1 ≤ gen) (hg2 : gen ≤ 4294967295) (hnh : next ≤ sz / 2) (hsz : sz ≤ 4096) (hd : Dk w F d sz seen dur pend left) (hfh : first + sz / 2 ≤ sz) (hlm : left ≤ 9223372036854775807) (hpm : pend.length ≤ 900000) (hfit : needN (32 + zs.length) ≤ sz / 2 - next) (hdone : doneN left (needN (32 + zs.length)) < needN (32 + zs.length)) :
    Calls Tryd.prog 11 #[.pointer (some ⟨vb, 0, none⟩), kval k, u] w (VpStop A F vb d sz first gen next kv mb es k zs seen dur pend left w) := by
  show Calls Tryd.prog 11 #[.pointer (some ⟨vb, 0, none⟩), .agg (ints .u8 k).toArray, u] w (VpStop A F vb d sz first gen next kv mb es k zs seen dur pend left w)
  have AFL0 : Hid (∀ x ∈ A ++ F, x < w.heap.size) := fun x hx => by
    rcases List.mem_append.1 hx with h1 | h1
    · exact ha.lt x h1
    · exact hd.lt x h1
  have HD := Lib.hid hd
  unfold VpStop
  rw [show needN (32 + zs.length) = needN (k ++ zs).length by rw [List.length_append, hk.1]] at hfit hdone ⊢
  obtain ⟨dn, hdn⟩ : ∃ dn, Hid (doneN left (needN (k ++ zs).length) = dn) := ⟨_, rfl⟩
  have HFIT := Lib.hid hfit
  have HDONE := Lib.hid hdone
  rw [hdn.out]
  clear hd hfit hdone
  obtain ⟨half, hhf⟩ : ∃ half, Hid (sz / 2 = half) := ⟨_, rfl⟩
  rw [hhf.out] at ha hnh
  have hhm : half ≤ 4096 := by have := hhf.out; omega
  obtain ⟨ua, uc, rfl, -⟩ := id hu
  obtain ⟨m, hm⟩ : ∃ m, Hid (zs.length = m) := ⟨_, rfl⟩
  rw [hm.out] at hu hz hnl ⊢
  have HU := Lib.hid hu
  have HNL := Lib.hid hnl
  have HA := Lib.hid ha
  have HK := Lib.hid hK
  have HVAL := Lib.hid hval
  have q1 : ¬ (1000 : Int) < (m : Int) := by omega
  clear hu hval hnl ha hK
  obtain ⟨B, hB⟩ : ∃ B, Hid (w.heap.size = B) := ⟨_, rfl⟩
  have VW := Lib.hid h
  have GK := Lib.hid hk
  clear h hk
  have KS : Hid ((Tryd.prog.info? 35).map (·.size) = some (ints .u8 k).length) := blk_goodK GK.out.1
  go_enter Tryd.func11, Tryd.ntmps11
  go_upto_region 0 with (fail)
  refine lin_begin (opsOf Tryd.f11 0) (by kernel_rfl) ?_
  refine lin_box 0 35 (.tmp 1) (ints .u8 k) (B) (some 4) (by kernel_rfl) (by kernel_rfl) (by kernel_rfl) (by kernel_rfl) hB ?_
  intro w1 b1 be1 hs1
  refine lin_now 1 (.int .i64 0) (some 6) (by kernel_rfl) (by kernel_rfl) (by kernel_rfl) ?_
  refine lin_done 2 (by kernel_rfl) ?_
  have BL1 : Hid (Below w.heap.size w w1) := by rw [Hid, hB.out]; exact be1
  have B3 := Lib.hid b1
  clear b1 be1 hs1
  generalize hact : Act.put _ (some 6) _ = act
  simp only [Act.put, List.setIfInBounds_toArray, List.set_cons_succ, List.set_cons_zero] at hact
  subst hact
  obtain ⟨vs, v, m0, hlk, hbo, hnl, hvl, hvb⟩ := VW.out.asked GK.out
  have M0 := Lib.hid m0
  obtain ⟨bo, hbo2⟩ : ∃ b, Hid ((valOf es k).isSome = b) := ⟨_, rfl⟩
  rw [hbo2.out] at hlk
  have HLK := Lib.hid hlk
  have HBO := Lib.hid hbo.in
  have HVL := Lib.hid hvl
  have HVB := Lib.hid hvb
  rw [HVAL.out] at hbo2 HBO HVL HVB
  clear m0 hlk hbo hvl hvb hnl
  go_upto_region 3 with (fail)
  refine region_begin (opsOf Tryd.f11 3) (fun w => Blk w B 35 (ints .u8 (k)) ∧ w.cell? ⟨vb, 3, none⟩ = some (.map (some mb)) ∧ Mp w mb (es.map (·.1)) vs) (by kernel_rfl) (by kernel_rfl) 11 (by kernel_rfl) ?_
  intro Q' hQN hN
  have X : Blk w1.drew B 35 (ints .u8 (k)) ∧ w1.drew.cell? ⟨vb, 3, none⟩ = some (.map (some mb)) ∧ Mp w1.drew mb (es.map (·.1)) vs := ⟨B3.out.drew, (VW.out.below BL1.out.drew).c3, M0.out.same (BL1.out.drew.block mb M0.out.lt)⟩
  refine reg_now 0 (.pointer (some ⟨vb, 0, none⟩)) (some 14) hQN X (by kernel_rfl) (by kernel_rfl) (fun w => by kernel_rfl) ?_
  refine reg_now 1 (.pointer (some ⟨vb, 0, none⟩)) (some 15) hQN X (by kernel_rfl) (by kernel_rfl) (fun w => by kernel_rfl) ?_
  refine reg_now 2 (.pointer (some ⟨vb, 3, none⟩)) (some 16) hQN X (by kernel_rfl) (by kernel_rfl) (fun w => by kernel_rfl) ?_
  refine reg_nowIf 3 (.map (some mb)) (some 17) hQN X (by kernel_rfl) (by kernel_rfl) (fun w hw => exec_load_cell 71 (.tmp 16) (by kernel_rfl) vb 3 (by kernel_rfl) _ hw.2.1 _ Tryd.underlying71 rfl) ?_
  refine reg_nowIf 4 (.agg (ints .u8 (k)).toArray) (some 18) hQN X (by kernel_rfl) (by kernel_rfl) (fun w hw => exec_load_mid 35 (.tmp 4) (by kernel_rfl) B 0 (by kernel_rfl) (ints .u8 (k)) _ hw.1.whole digUnder rfl KS.out) ?_
  refine reg_nowIf 5 (.tuple #[v, .bool bo]) (some 19) hQN X (by kernel_rfl) (by kernel_rfl) (fun w hw => exec_of (Instr.lookup 71 (.map (some mb)) (kval (k)) true) _ (by kernel_rfl) (HLK.out w hw.2.2)) ?_
  refine reg_now 6 (.tuple #[v, .bool bo]) (some 13) hQN X (by kernel_rfl) (by kernel_rfl) (fun w => by kernel_rfl) ?_
  refine reg_now 7 (v) (some 20) hQN X (by kernel_rfl) (by kernel_rfl) (fun w => by kernel_rfl) ?_
  refine reg_now 8 (.bool bo) (some 21) hQN X (by kernel_rfl) (by kernel_rfl) (fun w => by kernel_rfl) ?_
  refine reg_now 9 (v) (some 7) hQN X (by kernel_rfl) (by kernel_rfl) (fun w => by kernel_rfl) ?_
  refine reg_now 10 (.bool bo) (some 8) hQN X (by kernel_rfl) (by kernel_rfl) (fun w => by kernel_rfl) ?_
  refine reg_done (by kernel_rfl) (hN _ _ ?_)
  have BW2 : Hid (Below w.heap.size w w1.drew) := BL1.out.drew
  have B4 : Hid (Blk w1.drew B 35 (ints .u8 k)) := B3.out.drew
  generalize w1.drew = w2 at BW2 B4 ⊢
  clear X hQN hN BL1 B3
  generalize hact : Act.put _ (some 8) _ = act
  simp only [Act.put, List.setIfInBounds_toArray, List.set_cons_succ, List.set_cons_zero] at hact
  subst hact
  obtain rfl : bo = false := hbo2.out.symm
  have V2 := Lib.hid (VW.out.below BW2.out)
  have A2 := Lib.hid (HA.out.below BW2.out)
  clear HBO HLK M0 HVB HVL
  go_wp2_with fail
  refine (vsound_walk V2.out).mono ?_
  rintro e w3 ⟨rfl, rfl⟩
  go_upto_region 10 with (fail)
  refine region_begin (opsOf Tryd.f11 10) (fun w => Blk w B 35 (ints .u8 k) ∧ w.cell? ⟨vb, 1, none⟩ = some (.pointer (some ⟨ab, 0, none⟩))) (by kernel_rfl) (by kernel_rfl) 9 (by kernel_rfl) ?_
  intro Q' hQN hN
  have X : Blk w2.drew B 35 (ints .u8 k) ∧ w2.drew.cell? ⟨vb, 1, none⟩ = some (.pointer (some ⟨ab, 0, none⟩)) := ⟨B4.out.drew, (VW.out.below BW2.out.drew).c1⟩
  have BW3 : Hid (Below w.heap.size w w2.drew) := BW2.out.drew
  generalize w2.drew = w3 at X BW3 ⊢
  refine reg_now 0 (.pointer (some ⟨vb, 0, none⟩)) (some 30) hQN X (by kernel_rfl) (by kernel_rfl) (fun w => by kernel_rfl) ?_
  refine reg_now 1 (.pointer (some ⟨vb, 0, none⟩)) (some 31) hQN X (by kernel_rfl) (by kernel_rfl) (fun w => by kernel_rfl) ?_
  refine reg_now 2 (.pointer (some ⟨vb, 1, none⟩)) (some 32) hQN X (by kernel_rfl) (by kernel_rfl) (fun w => by kernel_rfl) ?_
  refine reg_nowIf 3 (.pointer (some ⟨ab, 0, none⟩)) (some 33) hQN X (by kernel_rfl) (by kernel_rfl) (fun w hw => exec_load_cell 68 (.tmp 32) (by kernel_rfl) vb 1 (by kernel_rfl) _ hw.2 _ Tryd.underlying68 rfl) ?_
  refine reg_nowIf 4 (.agg (ints .u8 k).toArray) (some 34) hQN X (by kernel_rfl) (by kernel_rfl) (fun w hw => exec_load_mid 35 (.tmp 4) (by kernel_rfl) B 0 (by kernel_rfl) (ints .u8 k) _ hw.1.whole digUnder rfl KS.out) ?_
  refine reg_now 5 (.slice ua m uc) (some 35) hQN X (by kernel_rfl) (by kernel_rfl) (fun w => by kernel_rfl) ?_
  refine reg_call 6 39 #[.agg (ints .u8 k).toArray, .slice ua m uc] (some 36) _ (by kernel_rfl) (by kernel_rfl) (by kernel_rfl) (pack_walk k _ zs _ GK.out (HU.out.in.below BW3.out (Nat.le_refl _)) HNL.out (by rw [hm.out]; exact hz)) ?_
  rintro e w5 ⟨v5, rfl, ho5, hb5⟩
  have BW5 : Hid (Below w.heap.size w w5) := BW3.out.trans (hb5.mono BW3.out.size)
  have X5 : Blk w5 B 35 (ints .u8 k) ∧ w5.cell? ⟨vb, 1, none⟩ = some (.pointer (some ⟨ab, 0, none⟩)) := ⟨X.1.below hb5 X.1.lt, (VW.out.below BW5.out).c1⟩
  have AFL : Hid (∀ x ∈ A ++ F, x < w.heap.size) := AFL0.out
  have R5 : Hid (BytesOff (A ++ F) w5 v5 (k ++ zs)) := owns_off ho5 (fun x hx => by have := AFL.out x hx; have := BW3.out.size; omega)
  have N5 : Hid (NilOk v5) := owns_nilok ho5
  have A5 := Lib.hid (HA.out.below BW5.out)
  have RL : Hid ((k ++ zs).length = 32 + m) := by unfold Hid; rw [List.length_append, GK.out.1, hm.out]
  clear ho5 hb5
  refine ⟨_, rfl, X5, ?_⟩
  have D5 := Lib.hid (HD.out.below BW5.out)
  refine reg_call 7 38 #[.pointer (some ⟨ab, 0, none⟩), v5] (some 37) _ (by kernel_rfl) (by kernel_rfl) (by kernel_rfl) (add_stop (vfoot vb mb kv) A5.out v5 (k ++ zs) R5.out N5.out (HK.out.below BW5.out HK.out.lt) (by rw [RL.out]; omega) hg1 hg2 hnh hhm (by rw [← hhf.out]; exact HFIT.out) sz seen dur pend left D5.out (by rw [← hhf.out]; exact hfh) hlm hpm HDONE.out) ?_
  rintro e w6 ⟨rfl, F6, ha6, hd6, hs6⟩
  rw [hdn.out] at hd6
  have V5 := VW.out.below BW5.out
  have V6 := Lib.hid (V5.step hs6)
  have A6 := Lib.hid ha6
  have D6 := Lib.hid hd6
  have S6 : Hid (Step (A ++ F) w (A ++ F6) w6) := (Step.of_below BW5.out (Nat.le_refl _)).trans hs6
  have BN : B ∉ A ++ F := fun hc => by have := AFL.out B hc; have := hB.out; omega
  have X6 : Blk w6 B 35 (ints .u8 k) ∧ w6.cell? ⟨vb, 1, none⟩ = some (.pointer (some ⟨ab, 0, none⟩)) := ⟨hs6.blk X5.1 BN, V6.out.c1⟩
  clear ha6 hd6 hs6
  refine ⟨_, rfl, X6, ?_⟩
  refine reg_now 8 (.int .i64 15) (some 9) hQN X6 (by kernel_rfl) (by kernel_rfl) (fun w => by kernel_rfl) ?_
  refine reg_done (by kernel_rfl) (hN _ _ ?_)
  have c1 := V6.out.c1
  have VB6 := Lib.hid V6.out.hb
  clear X5 X6 X hQN hN A5 N5 R5 BW5 BW3 BW2 B4 V2 A2 V5 D5 BN
  generalize hact : Act.put _ (some 9) _ = act
  simp only [Act.put, List.setIfInBounds_toArray, List.set_cons_succ, List.set_cons_zero] at hact
  subst hact
  go_wp2_with fail
  refine (arstuck_walk A6.out).mono ?_
  rintro e w7 ⟨rfl, rfl⟩
  go_upto_region 13 with (fail)
  refine lin_begin (opsOf Tryd.f11 13) (by kernel_rfl) ?_
  refine lin_now 0 (.pointer (some ⟨vb, 0, none⟩)) (some 45) (by kernel_rfl) (by kernel_rfl) (by kernel_rfl) ?_
  refine lin_now 1 (.pointer (some ⟨vb, 0, none⟩)) (some 46) (by kernel_rfl) (by kernel_rfl) (by kernel_rfl) ?_
  refine lin_now 2 (.pointer (some ⟨vb, 1, none⟩)) (some 47) (by kernel_rfl) (by kernel_rfl) (by kernel_rfl) ?_
  refine lin_store 3 (w6.setCell ⟨vb, 1, none⟩ (.pointer none)) (by kernel_rfl) (by kernel_rfl) (exec_store_cell 68 (.tmp 47) (.const (.pointer none)) (by kernel_rfl) vb 1 _ (by kernel_rfl) (by kernel_rfl) _ _ VB6.out (by simp [vcells]) (by kernel_rfl) rfl rfl) ?_
  refine lin_done 4 (by kernel_rfl) ?_
  have V8 : Hid (Vm (w6.setCell ⟨vb, 1, none⟩ (.pointer none)) (A ++ F6) vb d none kv mb es) := V6.out.setArea none
  have U8 : Hid (Upd vb w6 (w6.setCell ⟨vb, 1, none⟩ (.pointer none))) := (Upd.refl vb w6).setCell 1 _
  generalize w6.setCell ⟨vb, 1, none⟩ (.pointer none) = w8 at V8 U8 ⊢
  generalize hact : Act.put _ none undef = act
  simp only [Act.put, List.setIfInBounds_toArray, List.set_cons_succ, List.set_cons_zero] at hact
  subst hact
  go_wp2
  go_ret
  have nF : vb ∉ A ++ F6 := V6.out.n2 vb (by simp [vfoot])
  exact ⟨rfl, F6, V8.out, D6.out.step (G := [vb]) (G' := [vb]) (Step.of_upd U8.out (by simp)) (fun x hx hc => by
    obtain rfl : x = vb := by simpa using hc
    exact nF (List.mem_append_right _ hx)), S6.out.left.trans (Step.of_upd U8.out (by simp [vfoot]))⟩
def VpOk (A F : List Nat) (vb d sz ab first gen next : Nat) (kv : Value) (mb : Nat) (es : List Ent) (k zs : List Int) (seen dur : List Int) (pend : List Wr) (left : Int) (w : World) (e : Ending) (w' : World) : Prop :=
  e = .returned (.int .i64 0) ∧ ∃ A' F' kv', Vm w' (A' ++ F') vb d (some ⟨ab, 0, none⟩) kv' mb (es ++ [(k, zs)]) ∧ Ar w' A' (vfoot vb mb kv' ++ F') ab d first (sz / 2) gen (next + needN (32 + zs.length)) false (es.map packE ++ [k ++ zs]) ∧
    Dk w' F' d sz (putsK seen (first + next) (packF gen next (k ++ zs)) (needN (32 + zs.length))) dur (pend ++ wrsAt (first + next) (packF gen next (k ++ zs)) (needN (32 + zs.length))) (leftK left (needN (32 + zs.length))) ∧ Step (vfoot vb mb kv ++ (A ++ F)) w (vfoot vb mb kv' ++ (A' ++ F')) w'
set_option maxHeartbeats 4000000 in
theorem vput_ok {w : World} {A F : List Nat} {vb d sz ab first gen next : Nat} {kv : Value} {mb : Nat} {es : List Ent} {k zs : List Int} {seen dur : List Int} {pend : List Wr} {left : Int} (u : Value) (h : Vm w (A ++ F) vb d (some ⟨ab, 0, none⟩) kv mb es) (ha : Ar w A (vfoot vb mb kv ++ F) ab d first (sz / 2) gen next false (es.map packE)) (hk : goodK k) (hu : BytesOff (vfoot vb mb kv ++ (A ++ F)) w u zs) (hnl : NilOk u) (hz : zs.length ≤ 1000) (hval : valOf es k = none) (hK : KW w) (hg1 : 1 ≤ gen) (hg2 : gen ≤ 4294967295) (hnh : next ≤ sz / 2) (hsz : sz ≤ 4096) (hd : Dk w F d sz seen dur pend left) (hfh : first + sz / 2 ≤ sz) (hlm : left ≤ 9223372036854775807) (hpm : pend.length ≤ 900000) (hfit : needN (32 + zs.length) ≤ sz / 2 - next) (hdone : doneN left (needN (32 + zs.length)) = needN (32 + zs.length)) (hzb : isBytes zs) (hes : es.length ≤ 100000) :
    Calls Tryd.prog 11 #[.pointer (some ⟨vb, 0, none⟩), kval k, u] w (VpOk A F vb d sz ab first gen next kv mb es k zs seen dur pend left w) := by
  show Calls Tryd.prog 11 #[.pointer (some ⟨vb, 0, none⟩), .agg (ints .u8 k).toArray, u] w (VpOk A F vb d sz ab first gen next kv mb es k zs seen dur pend left w)
  have AFL0 : Hid (∀ x ∈ A ++ F, x < w.heap.size) := fun x hx => by
    rcases List.mem_append.1 hx with h1 | h1
    · exact ha.lt x h1
    · exact hd.lt x h1
  have HD := Lib.hid hd
  have VLT := Lib.hid h.lt
  have HZB := Lib.hid hzb
  have HES := Lib.hid hes
  unfold VpOk
  rw [show needN (32 + zs.length) = needN (k ++ zs).length by rw [List.length_append, hk.1]] at hfit hdone ⊢
  obtain ⟨nn, hnn⟩ : ∃ dn, Hid (needN (k ++ zs).length = dn) := ⟨_, rfl⟩
  have HFIT := Lib.hid hfit
  have HDONE := Lib.hid hdone
  rw [hnn.out]
  clear hd hfit hdone hzb hes
  obtain ⟨half, hhf⟩ : ∃ half, Hid (sz / 2 = half) := ⟨_, rfl⟩
  rw [hhf.out] at ha hnh
  have hhm : half ≤ 4096 := by have := hhf.out; omega
  obtain ⟨ua, uc, rfl, -⟩ := id hu
  obtain ⟨m, hm⟩ : ∃ m, Hid (zs.length = m) := ⟨_, rfl⟩
  rw [hm.out] at hu hz hnl ⊢
  have HU := Lib.hid hu
  have HNL := Lib.hid hnl
  have HA := Lib.hid ha
  have HK := Lib.hid hK
  have HVAL := Lib.hid hval
  have q1 : ¬ (1000 : Int) < (m : Int) := by omega
  clear hu hval hnl ha hK
  obtain ⟨B, hB⟩ : ∃ B, Hid (w.heap.size = B) := ⟨_, rfl⟩
  have VW := Lib.hid h
  have GK := Lib.hid hk
  clear h hk
  have KS : Hid ((Tryd.prog.info? 35).map (·.size) = some (ints .u8 k).length) := blk_goodK GK.out.1
  go_enter Tryd.func11, Tryd.ntmps11
  go_upto_region 0 with (fail)
  refine lin_begin (opsOf Tryd.f11 0) (by kernel_rfl) ?_
  refine lin_box 0 35 (.tmp 1) (ints .u8 k) (B) (some 4) (by kernel_rfl) (by kernel_rfl) (by kernel_rfl) (by kernel_rfl) hB ?_
  intro w1 b1 be1 hs1
  refine lin_now 1 (.int .i64 0) (some 6) (by kernel_rfl) (by kernel_rfl) (by kernel_rfl) ?_
  refine lin_done 2 (by kernel_rfl) ?_
  have BL1 : Hid (Below w.heap.size w w1) := by rw [Hid, hB.out]; exact be1
  have B3 := Lib.hid b1
  clear b1 be1 hs1
  generalize hact : Act.put _ (some 6) _ = act
  simp only [Act.put, List.setIfInBounds_toArray, List.set_cons_succ, List.set_cons_zero] at hact
  subst hact
  obtain ⟨vs, v, m0, hlk, hbo, hnl, hvl, hvb⟩ := VW.out.asked GK.out
  have M0 := Lib.hid m0
  obtain ⟨bo, hbo2⟩ : ∃ b, Hid ((valOf es k).isSome = b) := ⟨_, rfl⟩
  rw [hbo2.out] at hlk
  have HLK := Lib.hid hlk
  have HBO := Lib.hid hbo.in
  have HVL := Lib.hid hvl
  have HVB := Lib.hid hvb
  rw [HVAL.out] at hbo2 HBO HVL HVB
  clear m0 hlk hbo hvl hvb hnl
  go_upto_region 3 with (fail)
  refine region_begin (opsOf Tryd.f11 3) (fun w => Blk w B 35 (ints .u8 (k)) ∧ w.cell? ⟨vb, 3, none⟩ = some (.map (some mb)) ∧ Mp w mb (es.map (·.1)) vs) (by kernel_rfl) (by kernel_rfl) 11 (by kernel_rfl) ?_
  intro Q' hQN hN
  have X : Blk w1.drew B 35 (ints .u8 (k)) ∧ w1.drew.cell? ⟨vb, 3, none⟩ = some (.map (some mb)) ∧ Mp w1.drew mb (es.map (·.1)) vs := ⟨B3.out.drew, (VW.out.below BL1.out.drew).c3, M0.out.same (BL1.out.drew.block mb M0.out.lt)⟩
  refine reg_now 0 (.pointer (some ⟨vb, 0, none⟩)) (some 14) hQN X (by kernel_rfl) (by kernel_rfl) (fun w => by kernel_rfl) ?_
  refine reg_now 1 (.pointer (some ⟨vb, 0, none⟩)) (some 15) hQN X (by kernel_rfl) (by kernel_rfl) (fun w => by kernel_rfl) ?_
  refine reg_now 2 (.pointer (some ⟨vb, 3, none⟩)) (some 16) hQN X (by kernel_rfl) (by kernel_rfl) (fun w => by kernel_rfl) ?_
  refine reg_nowIf 3 (.map (some mb)) (some 17) hQN X (by kernel_rfl) (by kernel_rfl) (fun w hw => exec_load_cell 71 (.tmp 16) (by kernel_rfl) vb 3 (by kernel_rfl) _ hw.2.1 _ Tryd.underlying71 rfl) ?_
  refine reg_nowIf 4 (.agg (ints .u8 (k)).toArray) (some 18) hQN X (by kernel_rfl) (by kernel_rfl) (fun w hw => exec_load_mid 35 (.tmp 4) (by kernel_rfl) B 0 (by kernel_rfl) (ints .u8 (k)) _ hw.1.whole digUnder rfl KS.out) ?_
  refine reg_nowIf 5 (.tuple #[v, .bool bo]) (some 19) hQN X (by kernel_rfl) (by kernel_rfl) (fun w hw => exec_of (Instr.lookup 71 (.map (some mb)) (kval (k)) true) _ (by kernel_rfl) (HLK.out w hw.2.2)) ?_
  refine reg_now 6 (.tuple #[v, .bool bo]) (some 13) hQN X (by kernel_rfl) (by kernel_rfl) (fun w => by kernel_rfl) ?_
  refine reg_now 7 (v) (some 20) hQN X (by kernel_rfl) (by kernel_rfl) (fun w => by kernel_rfl) ?_
  refine reg_now 8 (.bool bo) (some 21) hQN X (by kernel_rfl) (by kernel_rfl) (fun w => by kernel_rfl) ?_
  refine reg_now 9 (v) (some 7) hQN X (by kernel_rfl) (by kernel_rfl) (fun w => by kernel_rfl) ?_
  refine reg_now 10 (.bool bo) (some 8) hQN X (by kernel_rfl) (by kernel_rfl) (fun w => by kernel_rfl) ?_
  refine reg_done (by kernel_rfl) (hN _ _ ?_)
  have BW2 : Hid (Below w.heap.size w w1.drew) := BL1.out.drew
  have B4 : Hid (Blk w1.drew B 35 (ints .u8 k)) := B3.out.drew
  generalize w1.drew = w2 at BW2 B4 ⊢
  clear X hQN hN BL1 B3
  generalize hact : Act.put _ (some 8) _ = act
  simp only [Act.put, List.setIfInBounds_toArray, List.set_cons_succ, List.set_cons_zero] at hact
  subst hact
  obtain rfl : bo = false := hbo2.out.symm
  have V2 := Lib.hid (VW.out.below BW2.out)
  have A2 := Lib.hid (HA.out.below BW2.out)
  clear HBO HLK M0 HVB HVL
  go_wp2_with fail
  refine (vsound_walk V2.out).mono ?_
  rintro e w3 ⟨rfl, rfl⟩
  go_upto_region 10 with (fail)
  refine region_begin (opsOf Tryd.f11 10) (fun w => Blk w B 35 (ints .u8 k) ∧ w.cell? ⟨vb, 1, none⟩ = some (.pointer (some ⟨ab, 0, none⟩))) (by kernel_rfl) (by kernel_rfl) 9 (by kernel_rfl) ?_
  intro Q' hQN hN
  have X : Blk w2.drew B 35 (ints .u8 k) ∧ w2.drew.cell? ⟨vb, 1, none⟩ = some (.pointer (some ⟨ab, 0, none⟩)) := ⟨B4.out.drew, (VW.out.below BW2.out.drew).c1⟩
  have BW3 : Hid (Below w.heap.size w w2.drew) := BW2.out.drew
  generalize w2.drew = w3 at X BW3 ⊢
  refine reg_now 0 (.pointer (some ⟨vb, 0, none⟩)) (some 30) hQN X (by kernel_rfl) (by kernel_rfl) (fun w => by kernel_rfl) ?_
  refine reg_now 1 (.pointer (some ⟨vb, 0, none⟩)) (some 31) hQN X (by kernel_rfl) (by kernel_rfl) (fun w => by kernel_rfl) ?_
  refine reg_now 2 (.pointer (some ⟨vb, 1, none⟩)) (some 32) hQN X (by kernel_rfl) (by kernel_rfl) (fun w => by kernel_rfl) ?_
  refine reg_nowIf 3 (.pointer (some ⟨ab, 0, none⟩)) (some 33) hQN X (by kernel_rfl) (by kernel_rfl) (fun w hw => exec_load_cell 68 (.tmp 32) (by kernel_rfl) vb 1 (by kernel_rfl) _ hw.2 _ Tryd.underlying68 rfl) ?_
  refine reg_nowIf 4 (.agg (ints .u8 k).toArray) (some 34) hQN X (by kernel_rfl) (by kernel_rfl) (fun w hw => exec_load_mid 35 (.tmp 4) (by kernel_rfl) B 0 (by kernel_rfl) (ints .u8 k) _ hw.1.whole digUnder rfl KS.out) ?_
  refine reg_now 5 (.slice ua m uc) (some 35) hQN X (by kernel_rfl) (by kernel_rfl) (fun w => by kernel_rfl) ?_
  refine reg_call 6 39 #[.agg (ints .u8 k).toArray, .slice ua m uc] (some 36) _ (by kernel_rfl) (by kernel_rfl) (by kernel_rfl) (pack_walk k _ zs _ GK.out (HU.out.in.below BW3.out (Nat.le_refl _)) HNL.out (by rw [hm.out]; exact hz)) ?_
  rintro e w5 ⟨v5, rfl, ho5, hb5⟩
  have BW5 : Hid (Below w.heap.size w w5) := BW3.out.trans (hb5.mono BW3.out.size)
  have X5 : Blk w5 B 35 (ints .u8 k) ∧ w5.cell? ⟨vb, 1, none⟩ = some (.pointer (some ⟨ab, 0, none⟩)) := ⟨X.1.below hb5 X.1.lt, (VW.out.below BW5.out).c1⟩
  have AFL : Hid (∀ x ∈ A ++ F, x < w.heap.size) := AFL0.out
  have R5 : Hid (BytesOff (A ++ F) w5 v5 (k ++ zs)) := owns_off ho5 (fun x hx => by have := AFL.out x hx; have := BW3.out.size; omega)
  have N5 : Hid (NilOk v5) := owns_nilok ho5
  have A5 := Lib.hid (HA.out.below BW5.out)
  have RL : Hid ((k ++ zs).length = 32 + m) := by unfold Hid; rw [List.length_append, GK.out.1, hm.out]
  clear ho5 hb5
  refine ⟨_, rfl, X5, ?_⟩
  have D5 := Lib.hid (HD.out.below BW5.out)
  refine reg_call 7 38 #[.pointer (some ⟨ab, 0, none⟩), v5] (some 37) _ (by kernel_rfl) (by kernel_rfl) (by kernel_rfl) (add_ok (vfoot vb mb kv) A5.out (fun x hx => Nat.lt_of_lt_of_le (VLT.out x hx) BW5.out.size) v5 (k ++ zs) R5.out N5.out (HK.out.below BW5.out HK.out.lt) (by rw [RL.out]; omega) hg1 hg2 hnh hhm (by rw [← hhf.out]; exact HFIT.out) sz seen dur pend left D5.out (by rw [← hhf.out]; exact hfh) hlm hpm HDONE.out (by rw [List.length_map]; have := HES.out; omega)) ?_
  rintro e w6 ⟨rfl, A6, F6, ha6, hd6, hs6⟩
  rw [hnn.out] at ha6 hd6
  have V5 := VW.out.below BW5.out
  have V6 := Lib.hid (V5.step hs6)
  have HA6 := Lib.hid ha6
  have D6 := Lib.hid hd6
  have S6 : Hid (Step (A ++ F) w (A6 ++ F6) w6) := (Step.of_below BW5.out (Nat.le_refl _)).trans hs6
  have BN : B ∉ A ++ F := fun hc => by have := AFL.out B hc; have := hB.out; omega
  have X6 : Blk w6 B 35 (ints .u8 k) ∧ w6.cell? ⟨vb, 1, none⟩ = some (.pointer (some ⟨ab, 0, none⟩)) := ⟨hs6.blk X5.1 BN, V6.out.c1⟩
  have U6 : Hid (BytesOff (vfoot vb mb kv ++ (A6 ++ F6)) w6 (.slice ua m uc) zs) := HU.out.step S6.out.left
  have GL6 : Hid (∀ x ∈ A6 ++ F6, x < w6.heap.size) := fun x hx => by
    rcases List.mem_append.1 hx with h1 | h1
    · exact HA6.out.lt x h1
    · exact D6.out.lt x h1
  clear ha6 hd6 hs6
  refine ⟨_, rfl, X6, ?_⟩
  refine reg_now 8 (.int .i64 0) (some 9) hQN X6 (by kernel_rfl) (by kernel_rfl) (fun w => by kernel_rfl) ?_
  refine reg_done (by kernel_rfl) (hN _ _ ?_)
  have X7 := Lib.hid X6.1
  have NK : Hid (k ∉ es.map (·.1)) := fun hc => by
    obtain ⟨e, he, ek⟩ := List.mem_map.1 hc
    obtain ⟨j, hj⟩ := List.mem_iff_getElem?.1 he
    have := valOf_some VW.out.nodup hj ek
    rw [HVAL.out] at this
    cases this
  clear X5 X6 X hQN hN A5 N5 R5 BW5 BW3 BW2 B4 V2 A2 V5 D5 BN
  generalize hact : Act.put _ (some 9) _ = act
  simp only [Act.put, List.setIfInBounds_toArray, List.set_cons_succ, List.set_cons_zero] at hact
  subst hact
  go_upto_region 15 with (fail)
  refine lin_begin (opsOf Tryd.f11 15) (by kernel_rfl) ?_
  refine lin_now 0 (.pointer (some ⟨vb, 0, none⟩)) (some 49) (by kernel_rfl) (by kernel_rfl) (by kernel_rfl) ?_
  refine lin_now 1 (.agg (ints .u8 k).toArray) (some 50) (by kernel_rfl) (by kernel_rfl) (exec_load_mid 35 (.tmp 4) (by kernel_rfl) B 0 (by kernel_rfl) (ints .u8 k) _ X7.out.whole digUnder rfl KS.out) ?_
  refine lin_now 2 (.slice ua m uc) (some 51) (by kernel_rfl) (by kernel_rfl) (by kernel_rfl) ?_
  refine lin_call 3 41 #[.pointer (some ⟨vb, 0, none⟩), .agg (ints .u8 k).toArray, .slice ua m uc] (some 52) _ (by kernel_rfl) (by kernel_rfl) (by kernel_rfl) (hold_walk (A6 ++ F6) vb d _ kv mb es k zs _ _ V6.out GL6.out HES.out GK.out NK.out (U6.out.sub (fun x hx => List.mem_append_left _ hx)) HNL.out ⟨by rw [hm.out]; exact hz, HZB.out⟩) ?_
  rintro e w8 ⟨kv8, rfl, hv8, hs8⟩
  have V8 := Lib.hid hv8
  have S8 := Lib.hid hs8
  clear hv8 hs8
  refine ⟨_, rfl, ?_⟩
  refine lin_done 4 (by kernel_rfl) ?_
  generalize hact : Act.put _ (some 52) _ = act
  simp only [Act.put, List.setIfInBounds_toArray, List.set_cons_succ, List.set_cons_zero] at hact
  subst hact
  go_wp2
  go_ret
  exact ⟨rfl, A6, F6, kv8, V8.out, by rw [hhf.out]; exact HA6.out.disk S8.out.right, D6.out.step S8.out (fun x hx hc => V6.out.n2 x hc (List.mem_append_right _ hx)), S6.out.left.trans S8.out.right⟩
end Go.Proofs.YtngpmilojfbpmaaDoor
/- Package vault: sets of keys; the closures of Keep; slices.IndexFunc. -/
namespace Go.Proofs.YtngpmilojfbpmaaDoor
open Go Go.RowKit
set_option maxRecDepth 100000

/-- The one value of a set. -/
def unitV : Value := .agg (([] : List Value)).toArray
/-- At sb lies the variable of a set (the map qm) of just the keys ks. -/
def SetAt (w : World) (sb qm : Nat) (ks : List (List Int)) : Prop :=
  Blk w sb 119 [.map (some qm)] ∧ ∃ kset vs, Mp w qm kset vs ∧ (∀ v ∈ vs, v = unitV) ∧ ∀ k, k ∈ kset ↔ k ∈ ks
theorem SetAt.qlt {w : World} {sb qm : Nat} {ks : List (List Int)} (h : SetAt w sb qm ks) : qm < w.heap.size := by
  obtain ⟨_, kset, vs, h1, _⟩ := h
  exact h1.lt
theorem SetAt.step {F F' : List Nat} {w w' : World} {sb qm : Nat} {ks : List (List Int)} (h : SetAt w sb qm ks) (hs : Step F w F' w') (h1 : sb ∉ F) (h2 : qm ∉ F) : SetAt w' sb qm ks := by
  obtain ⟨hb, kset, vs, hm, hv⟩ := h
  exact ⟨hs.blk hb h1, kset, vs, hm.same (hs.block qm hm.lt h2), hv⟩
theorem SetAt.below {w w' : World} {sb qm : Nat} {ks : List (List Int)} (h : SetAt w sb qm ks) (hb : Below w.heap.size w w') : SetAt w' sb qm ks := h.step (F := []) (F' := []) (Step.of_below hb (Nat.le_refl _)) (by simp) (by simp)
theorem zeroUnit : ∀ w, (zeroValue 120).run Tryd.prog w = .ok unitV w := fun w => by kernel_rfl
theorem infoUnit : (Tryd.prog.info? 120).map (·.zero) = some (some (.agg (([] : List Value)).toArray)) := by kernel_rfl
theorem SetAt.asked {w : World} {qm : Nat} {ks kset : List (List Int)} {vs : List Value} (h : Mp w qm kset vs) (hv : ∀ v ∈ vs, v = unitV) (hk : ∀ k, k ∈ kset ↔ k ∈ ks) {k : List Int} (hg : goodK k) :
    (Instr.lookup 119 (.map (some qm)) (kval k) true).run Tryd.prog w = .ok (.tuple #[unitV, .bool (decide (k ∈ ks))]) w := by
  rcases h.lookup Tryd.underlying119 zeroUnit hg true with ⟨h1, h2⟩ | ⟨j, v, h1, h2, h3⟩
  · rw [h1, decide_eq_false (fun hc => h2 ((hk k).2 hc))]
    rfl
  · rw [h1, hv v (List.mem_of_getElem? h3), decide_eq_true ((hk k).1 (List.mem_of_getElem? h2))]
    rfl
def predV (sb : Nat) : Value := .func (.func 71) #[] #[.pointer (some ⟨sb, 0, none⟩)]
def PredPost (b : Bool) (w : World) (e : Ending) (w' : World) : Prop := e = .returned (.bool b) ∧ Below w.heap.size w w'
set_option maxHeartbeats 2000000 in
theorem pred_walk {w : World} {sb qm : Nat} {ks : List (List Int)} (h : SetAt w sb qm ks) {k : List Int} (hk : goodK k) (b : Bool) (hb0 : (!decide (k ∈ ks)) = b) : Calls Tryd.prog 71 #[kval k, .pointer (some ⟨sb, 0, none⟩)] w (PredPost b w) := by
  show Calls Tryd.prog 71 #[.agg (ints .u8 k).toArray, .pointer (some ⟨sb, 0, none⟩)] w (PredPost b w)
  obtain ⟨c, hc⟩ : ∃ c, Hid (decide (k ∈ ks) = c) := ⟨_, rfl⟩
  have hb : (!c) = b := by rw [← hc.out]; exact hb0
  clear hb0
  obtain ⟨hsb, kset, vs, hm, hv, hks⟩ := h
  obtain ⟨q, hq⟩ : ∃ q, Hid (w.heap.size = q) := ⟨_, rfl⟩
  have SB := Lib.hid hsb
  have M0 := Lib.hid hm
  have HV := Lib.hid hv
  have HKS := Lib.hid hks
  have GK := Lib.hid hk
  have HB := Lib.hid hb
  have KS : Hid ((Tryd.prog.info? 35).map (·.size) = some (ints .u8 k).length) := blk_goodK GK.out.1
  clear hsb hm hv hks hk hb
  go_enter Tryd.func71, Tryd.ntmps71
  go_upto_region 0 with (fail)
  refine lin_begin (opsOf Tryd.f71 0) (by kernel_rfl) ?_
  refine lin_box 0 35 (.tmp 0) (ints .u8 k) (q) (some 2) (by kernel_rfl) (by kernel_rfl) (by kernel_rfl) (by kernel_rfl) hq ?_
  intro w1 b1 be1 hs1
  refine lin_now 1 (.bool false) (some 3) (by kernel_rfl) (by kernel_rfl) (by kernel_rfl) ?_
  refine lin_done 2 (by kernel_rfl) ?_
  have BL1 : Hid (Below w.heap.size w w1) := by rw [Hid, hq.out]; exact be1
  have B1 := Lib.hid b1
  have S1 := Lib.hid hs1
  have SB1 : Hid (Blk w1 sb 119 [.map (some qm)]) := SB.out.below BL1.out SB.out.lt
  have M1 : Hid (Mp w1 qm kset vs) := M0.out.same (BL1.out.block qm M0.out.lt)
  clear b1 be1 hs1
  generalize hact : Act.put _ (some 3) _ = act
  simp only [Act.put, List.setIfInBounds_toArray, List.set_cons_succ, List.set_cons_zero] at hact
  subst hact
  go_upto_region 1 with (fail)
  refine lin_begin (opsOf Tryd.f71 1) (by kernel_rfl) ?_
  refine lin_now 0 (.map (some qm)) (some 7) (by kernel_rfl) (by kernel_rfl) (exec_load_cell 119 (.tmp 1) (by kernel_rfl) sb 0 (by kernel_rfl) _ (SB1.out.cell rfl) _ Tryd.underlying119 rfl) ?_
  refine lin_now 1 (.agg (ints .u8 k).toArray) (some 8) (by kernel_rfl) (by kernel_rfl) (exec_load_mid 35 (.tmp 2) (by kernel_rfl) q 0 (by kernel_rfl) (ints .u8 k) _ B1.out.whole digUnder rfl KS.out) ?_
  refine lin_now 2 (.tuple #[unitV, .bool c]) (some 9) (by kernel_rfl) (by kernel_rfl) (exec_of (Instr.lookup 119 (.map (some qm)) (kval k) true) _ (by kernel_rfl) ((SetAt.asked M1.out HV.out HKS.out GK.out).trans (by rw [hc.out]))) ?_
  refine lin_now 3 (.tuple #[unitV, .bool c]) (some 6) (by kernel_rfl) (by kernel_rfl) (by kernel_rfl) ?_
  refine lin_now 4 (unitV) (some 10) (by kernel_rfl) (by kernel_rfl) (by kernel_rfl) ?_
  refine lin_now 5 (.bool c) (some 11) (by kernel_rfl) (by kernel_rfl) (by kernel_rfl) ?_
  refine lin_alloc 6 120 ([]) ((q + 1)) (some 4) (by kernel_rfl) (by kernel_rfl) (by kernel_rfl) infoUnit S1 ?_
  intro w2 b2 be2 hs2
  refine lin_put 7 120 (.tmp 4) (.tmp 10) (q + 1) _ [] [] (by kernel_rfl) (by kernel_rfl) (by kernel_rfl) (by kernel_rfl) (by kernel_rfl) b2 rfl (by kernel_rfl) (by simp) ?_
  intro w3 b3 u3
  refine lin_now 8 (.bool c) (some 5) (by kernel_rfl) (by kernel_rfl) (by kernel_rfl) ?_
  refine lin_done 9 (by kernel_rfl) ?_
  have BL3 : Hid (Below w.heap.size w w3) := u3.below (BL1.out.trans (be2.mono (by rw [hq.out]; omega))) (by rw [hq.out]; omega) (by rw [hs2.out, hq.out]; omega)
  clear b2 be2 hs2 b3 u3
  generalize hact : Act.put _ (some 5) _ = act
  simp only [Act.put, List.setIfInBounds_toArray, List.set_cons_succ, List.set_cons_zero] at hact
  subst hact
  cases c with
  | true =>
    have hb1 : b = false := HB.out.symm
    subst hb1
    go_wp2
    go_ret
    exact ⟨rfl, BL3.out⟩
  | false =>
    have hb1 : b = true := HB.out.symm
    subst hb1
    go_wp2
    go_ret
    exact ⟨rfl, BL3.out⟩
set_option maxHeartbeats 1000000 in
theorem keep1_walk {w : World} {sb qm gb : Nat} {ks : List (List Int)} (h : SetAt w sb qm ks) (hg : Blk w gb 81 [predV sb]) {k : List Int} (hk : goodK k) (v : Value) (b : Bool) (hb : (!decide (k ∈ ks)) = b) : Calls Tryd.prog 46 #[kval k, v, .pointer (some ⟨gb, 0, none⟩)] w (PredPost b w) := by
  show Calls Tryd.prog 46 #[.agg (ints .u8 k).toArray, v, .pointer (some ⟨gb, 0, none⟩)] w (PredPost b w)
  obtain ⟨q, hq⟩ : ∃ q, Hid (w.heap.size = q) := ⟨_, rfl⟩
  have HS := Lib.hid h
  have HG := Lib.hid hg
  have GK := Lib.hid hk
  have HB := Lib.hid hb
  have KS : Hid ((Tryd.prog.info? 35).map (·.size) = some (ints .u8 k).length) := blk_goodK GK.out.1
  clear h hg hk hb
  go_enter Tryd.func46, Tryd.ntmps46
  go_upto_region 0 with (fail)
  refine lin_begin (opsOf Tryd.f46 0) (by kernel_rfl) ?_
  refine lin_box 0 35 (.tmp 0) (ints .u8 k) (q) (some 3) (by kernel_rfl) (by kernel_rfl) (by kernel_rfl) (by kernel_rfl) hq ?_
  intro w1 b1 be1 hs1
  refine lin_now 1 (.bool false) (some 5) (by kernel_rfl) (by kernel_rfl) (by kernel_rfl) ?_
  refine lin_done 2 (by kernel_rfl) ?_
  have BL1 : Hid (Below w.heap.size w w1) := by rw [Hid, hq.out]; exact be1
  have B1 := Lib.hid b1
  have G1 : Hid (Blk w1 gb 81 [predV sb]) := HG.out.below BL1.out HG.out.lt
  clear b1 be1 hs1
  generalize hact : Act.put _ (some 5) _ = act
  simp only [Act.put, List.setIfInBounds_toArray, List.set_cons_succ, List.set_cons_zero] at hact
  subst hact
  go_upto_region 1 with (fail)
  refine lin_begin (opsOf Tryd.f46 1) (by kernel_rfl) ?_
  refine lin_now 0 (predV sb) (some 6) (by kernel_rfl) (by kernel_rfl) (exec_load_cell 81 (.tmp 2) (by kernel_rfl) gb 0 (by kernel_rfl) _ (G1.out.cell rfl) _ Tryd.underlying81 rfl) ?_
  refine lin_now 1 (.agg (ints .u8 k).toArray) (some 7) (by kernel_rfl) (by kernel_rfl) (exec_load_mid 35 (.tmp 3) (by kernel_rfl) q 0 (by kernel_rfl) (ints .u8 k) _ B1.out.whole digUnder rfl KS.out) ?_
  refine lin_call 2 71 #[.agg (ints .u8 k).toArray, .pointer (some ⟨sb, 0, none⟩)] (some 8) _ (by kernel_rfl) (by kernel_rfl) (by kernel_rfl) (pred_walk (HS.out.below BL1.out) GK.out b HB.out) ?_
  rintro e w2 ⟨rfl, hb2⟩
  have BL2 : Hid (Below w.heap.size w w2) := BL1.out.trans (hb2.mono BL1.out.size)
  clear hb2
  refine ⟨_, rfl, ?_⟩
  refine lin_now 3 (.bool b) (some 5) (by kernel_rfl) (by kernel_rfl) (by kernel_rfl) ?_
  refine lin_done 4 (by kernel_rfl) ?_
  generalize hact : Act.put _ (some 5) _ = act
  simp only [Act.put, List.setIfInBounds_toArray, List.set_cons_succ, List.set_cons_zero] at hact
  subst hact
  go_wp2
  go_ret
  exact ⟨rfl, BL2.out⟩
theorem run_makeMapN (n : Nat) (w : World) : (Instr.makeMap 119 (some (.int .i64 (n : Int)))).run Tryd.prog w = .ok (.map (some w.heap.size)) (w.alloc (.map #[] 0)) := by
  simp [Instr.makeMap, run_underlying Tryd.underlying119, asInt, asIntOf]
def NoPost (ks : List (List Int)) (w : World) (e : Ending) (w' : World) : Prop := ∃ sb qm, e = .returned (predV sb) ∧ SetAt w' sb qm ks ∧ Below w.heap.size w w' ∧ w.heap.size ≤ sb ∧ w.heap.size ≤ qm
set_option maxHeartbeats 4000000 in
theorem noneof_walk (u : Value) (ks : List (List Int)) (w : World) (hks : DsIn w u ks) (hg : ∀ k ∈ ks, goodK k) (hl : ks.length ≤ 1000000) : Calls Tryd.prog 42 #[u] w (NoPost ks w) := by
  obtain ⟨ka, kc, rfl, -, -⟩ := id hks
  obtain ⟨n, hn⟩ : ∃ n, Hid (ks.length = n) := ⟨_, rfl⟩
  rw [hn.out] at hks hl ⊢
  obtain ⟨B, hB⟩ : ∃ B, Hid (w.heap.size = B) := ⟨_, rfl⟩
  have HKS := Lib.hid hks
  have HG := Lib.hid hg
  have H32 : Hid (∀ k ∈ ks, k.length = 32) := fun k hk => (hg k hk).1
  clear hks hg
  go_enter Tryd.func42, Tryd.ntmps42
  go_upto_region 1 with (fail)
  refine lin_begin (opsOf Tryd.f42 1) (by kernel_rfl) ?_
  refine lin_now 0 (.slice ka n kc) (some 6) (by kernel_rfl) (by kernel_rfl) (by kernel_rfl) ?_
  refine lin_now 1 (.int .i64 (n : Int)) (some 7) (by kernel_rfl) (by kernel_rfl) (by kernel_rfl) ?_
  have m1 := mp_new w
  have B1 : Hid (Below w.heap.size w (w.alloc (.map #[] 0))) := (Below.refl _ _).alloc (Nat.le_refl _) _
  have S1 : Hid ((w.alloc (.map #[] 0)).heap.size = B + 1) := by unfold Hid; simp [hB.out]
  have hrm := run_makeMapN n w
  rw [hB.out] at m1 hrm
  generalize w.alloc (.map #[] 0) = w1 at m1 B1 S1 hrm
  have M1 := Lib.hid m1
  clear m1
  refine lin_value 2 (.map (some B)) (some 8) w1 (by kernel_rfl) (by kernel_rfl) (exec_of (Instr.makeMap 119 (some (.int .i64 (n : Int)))) _ (by kernel_rfl) hrm) ?_
  have b2 : Blk (w1.alloc (.cells (Value.map none).cells 119)) w1.heap.size 119 [.map none] := Blk.new _ _ _
  have be2 : Below w1.heap.size w1 (w1.alloc (.cells (Value.map none).cells 119)) := (Below.refl _ _).alloc (Nat.le_refl _) _
  have S2 : Hid ((w1.alloc (.cells (Value.map none).cells 119)).heap.size = B + 2) := by unfold Hid; simp [S1.out]
  obtain ⟨w2, hw2⟩ : ∃ w2, Hid (w1.alloc (.cells (Value.map none).cells 119) = w2) := ⟨_, rfl⟩
  rw [hw2.out] at b2 be2 S2
  rw [S1.out] at b2 be2
  refine lin_value 3 (.pointer (some ⟨B + 1, 0, none⟩)) (some 3) w2 (by kernel_rfl) (by kernel_rfl) (by rw [← hw2.out, ← S1.out]; exact exec_alloc 119 (by kernel_rfl) (.map none) (by kernel_rfl)) ?_
  have b3 : Blk (w2.setCell ⟨B + 1, 0, none⟩ (.map (some B))) (B + 1) 119 [.map (some B)] := b2.set 0 _
  have u3 : Upd (B + 1) w2 (w2.setCell ⟨B + 1, 0, none⟩ (.map (some B))) := (Upd.refl (B + 1) w2).setCell 0 _
  refine lin_store 4 (w2.setCell ⟨B + 1, 0, none⟩ (.map (some B))) (by kernel_rfl) (by kernel_rfl) (exec_store_cell 119 (.tmp 3) (.tmp 8) (by kernel_rfl) (B + 1) 0 _ (by kernel_rfl) (by kernel_rfl) _ _ b2 (by simp) (by kernel_rfl) rfl rfl) ?_
  refine lin_done 5 (by kernel_rfl) ?_
  generalize w2.setCell ⟨B + 1, 0, none⟩ (.map (some B)) = w3 at b3 u3 ⊢
  have X3 := Lib.hid b3
  have M3 : Hid (Mp w3 B [] []) := (M1.out.same (be2.block B (by omega))).same (u3.block B (by rw [S2.out]; omega) (by omega))
  have B3 : Hid (Below w.heap.size w w3) := u3.below (B1.out.trans (be2.mono (by rw [hB.out]; omega))) (by rw [hB.out]; omega) (by rw [S2.out, hB.out]; omega)
  clear b2 be2 S2 b3 u3 hrm M1 B1 S1 hw2
  generalize hact : Act.put _ none undef = act
  simp only [Act.put, List.setIfInBounds_toArray, List.set_cons_succ, List.set_cons_zero] at hact
  subst hact
  go_wp2
  go_loopw [11, 5] (fun iv _ wr => ∃ (i : Nat) (kset : List (List Int)) (vs : List Value), i ≤ n ∧ iv = .int .i64 (i : Int) ∧ Blk wr (B + 1) 119 [.map (some B)] ∧ Mp wr B kset vs ∧ Hid (∀ v ∈ vs, v = unitV) ∧ Hid (∀ k, k ∈ kset ↔ k ∈ ks.take i) ∧ Below w.heap.size w wr) (fun iv _ _ => n - (intOf iv).toNat)
  case atStart => exact ⟨0, [], [], Nat.zero_le _, rfl, X3.out, M3.out, (fun v hv => by simp at hv), (fun k => by simp), B3.out⟩
  case round =>
    obtain ⟨i, kset, vs, hi, rfl, hx, hm, hv, hks2, hbe⟩ := hrel
    have XW := Lib.hid hx
    have MW := Lib.hid hm
    have BW := Lib.hid hbe
    clear hx hm hbe X3 M3 B3
    by_cases hlt : i < n
    · have r1 : (i : Int) < (n : Int) := by omega
      obtain ⟨pb, po, k, rfl, hpb, hki, hr⟩ := HKS.out.part H32.out hn.out hlt
      have RK : Hid (wr.rangeAt pb (po + 32 * i) (ints .u8 k)) := fun j v hv => by rw [BW.out.cell (p := ⟨pb, po + 32 * i + j, none⟩) hpb]; exact hr j v hv
      have HKI := Lib.hid hki
      have GK : Hid (goodK k) := HG.out k (List.mem_of_getElem? hki)
      have KS : Hid ((Tryd.prog.info? 35).map (·.size) = some (ints .u8 k).length) := blk_goodK GK.out.1
      obtain ⟨q, hq⟩ : ∃ q, Hid (wr.heap.size = q) := ⟨_, rfl⟩
      clear hpb hki hr
      have QB : B + 1 < q := by rw [← hq.out]; exact XW.out.lt
      go_upto_region 4 with (fail)
      refine lin_begin (opsOf Tryd.f42 4) (by kernel_rfl) ?_
      refine lin_now 0 (.pointer (some ⟨pb, po + 32 * i, none⟩)) (some 13) (by kernel_rfl) (by kernel_rfl) (exec_indexAt 33 (.tmp 9) (.tmp 11) (by kernel_rfl) _ _ _ (by kernel_rfl) (by kernel_rfl) (run_at_dig pb po n kc i hlt wr)) ?_
      refine lin_now 1 (.agg (ints .u8 k).toArray) (some 14) (by kernel_rfl) (by kernel_rfl) (exec_load_mid 35 (.tmp 13) (by kernel_rfl) pb (po + 32 * i) (by kernel_rfl) (ints .u8 k) _ RK.out digUnder rfl KS.out) ?_
      refine lin_alloc 2 35 (ints .u8 z32) (q) (some 5) (by kernel_rfl) (by kernel_rfl) (by kernel_rfl) zeroDig hq ?_
      intro w4 b4 be4 hs4
      refine lin_put 3 35 (.tmp 5) (.tmp 14) (q) _ (ints .u8 z32) (ints .u8 k) (by kernel_rfl) (by kernel_rfl) (by kernel_rfl) (by kernel_rfl) (by kernel_rfl) b4 ((by simp only [ints_length, GK.out.1, z32_length])) KS.out (ints_oneCell _ _) ?_
      intro w5 b5 u5
      refine lin_done 4 (by kernel_rfl) ?_
      have X5 := Lib.hid b5
      have BW5 : Hid (Below wr.heap.size wr w5) := u5.below (by rw [hq.out]; exact be4) (by rw [hq.out]; exact Nat.le_refl _) (by rw [hs4.out, hq.out]; omega)
      clear b4 be4 hs4 b5 u5
      generalize hact : Act.put _ none undef = act
      simp only [Act.put, List.setIfInBounds_toArray, List.set_cons_succ, List.set_cons_zero] at hact
      subst hact
      have SB5 : Hid (Blk w5 (B + 1) 119 [.map (some B)]) := XW.out.below BW5.out XW.out.lt
      have M5 : Hid (Mp w5 B kset vs) := MW.out.same (BW5.out.block B MW.out.lt)
      have hup : ∃ (kset' : List (List Int)) (vs' : List Value) (w6 : World), (Instr.mapUpdate 119 (.map (some B)) (kval k) unitV).run Tryd.prog w5 = .ok () w6 ∧ Mp w6 B kset' vs' ∧ Upd B w5 w6 ∧ (∀ v ∈ vs', v = unitV) ∧ ∀ x, x ∈ kset' ↔ x ∈ ks.take (i + 1) := by
        have ht : ∀ x, x ∈ ks.take (i + 1) ↔ x ∈ ks.take i ∨ x = k := fun x => by
          have hil : i < ks.length := by rw [hn.out]; exact hlt
          rw [List.take_add_one, HKI.out]
          simp
        by_cases hin : k ∈ kset
        · obtain ⟨w6, h1, h2, h3⟩ := M5.out.update_same Tryd.underlying119 GK.out hin unitV hv.out
          refine ⟨kset, vs, w6, h1, h2, h3, hv.out, fun x => ?_⟩
          rw [ht, hks2.out]
          constructor
          · exact .inl
          · rintro (h | rfl)
            · exact h
            · exact (hks2.out x).1 hin
        · obtain ⟨w6, h1, h2, h3⟩ := M5.out.update Tryd.underlying119 GK.out hin unitV
          refine ⟨kset ++ [k], vs ++ [unitV], w6, h1, h2, h3, fun v hv2 => ?_, fun x => ?_⟩
          · rcases List.mem_append.1 hv2 with h | h
            · exact hv.out v h
            · simpa using h
          · rw [ht, List.mem_append, hks2.out]
            simp
      obtain ⟨kset', vs', w6, hr6, m6, u6, hv6, hk6⟩ := hup
      go_upto_region 5 with (fail)
      refine lin_begin (opsOf Tryd.f42 5) (by kernel_rfl) ?_
      refine lin_now 0 (.map (some B)) (some 15) (by kernel_rfl) (by kernel_rfl) (exec_load_cell 119 (.tmp 3) (by kernel_rfl) (B + 1) 0 (by kernel_rfl) _ (SB5.out.cell rfl) _ Tryd.underlying119 rfl) ?_
      refine lin_now 1 (.agg (ints .u8 k).toArray) (some 16) (by kernel_rfl) (by kernel_rfl) (exec_load_mid 35 (.tmp 5) (by kernel_rfl) q 0 (by kernel_rfl) (ints .u8 k) _ X5.out.whole digUnder rfl KS.out) ?_
      refine lin_now 2 (unitV) (some 17) (by kernel_rfl) (by kernel_rfl) (by kernel_rfl) ?_
      refine lin_store 3 w6 (by kernel_rfl) (by kernel_rfl) (exec_skip (Instr.mapUpdate 119 (.map (some B)) (kval k) unitV) (by kernel_rfl) hr6) ?_
      refine lin_done 4 (by kernel_rfl) ?_
      have X6 : Hid (Blk w6 (B + 1) 119 [.map (some B)]) := u6.blk SB5.out (by omega)
      have M6 := Lib.hid m6
      have V6 := Lib.hid hv6
      have K6 := Lib.hid hk6
      have BW6 : Hid (Below w.heap.size w w6) := u6.below (BW.out.trans (BW5.out.mono BW.out.size)) (Nat.le_of_eq hB.out) (Nat.le_trans BW.out.size BW5.out.size)
      clear hr6 m6 u6 hv6 hk6 SB5 M5 X5 BW5 XW MW BW hv hks2 RK
      generalize hact : Act.put _ none undef = act
      simp only [Act.put, List.setIfInBounds_toArray, List.set_cons_succ, List.set_cons_zero] at hact
      subst hact
      go_wp2
      exact ⟨⟨i + 1, kset', vs', by omega, by go_num, X6.out, M6.out, V6, K6, BW6.out⟩, by simp [intOf]; omega⟩
    · have r1 : ¬ (i : Int) < (n : Int) := by omega
      obtain rfl : i = n := by omega
      have TK : Hid (ks.take i = ks) := List.take_of_length_le (by rw [hn.out]; exact Nat.le_refl _)
      rw [TK.out] at hks2
      go_upto_region 7 with (fail)
      refine lin_begin (opsOf Tryd.f42 7) (by kernel_rfl) ?_
      refine lin_now 0 (predV (B + 1)) (some 19) (by kernel_rfl) (by kernel_rfl) (by kernel_rfl) ?_
      refine lin_now 1 (predV (B + 1)) (some 2) (by kernel_rfl) (by kernel_rfl) (by kernel_rfl) ?_
      refine lin_done 2 (by kernel_rfl) ?_
      generalize hact : Act.put _ (some 2) _ = act
      simp only [Act.put, List.setIfInBounds_toArray, List.set_cons_succ, List.set_cons_zero] at hact
      subst hact
      go_wp2
      go_ret
      exact ⟨B + 1, B, rfl, ⟨XW.out, kset, vs, MW.out, hv.out, hks2.out⟩, BW.out, by rw [hB.out]; omega, by rw [hB.out]; exact Nat.le_refl _⟩
end Go.Proofs.YtngpmilojfbpmaaDoor
/- Package vault: slices.IndexFunc and slices.DeleteFunc of digests. -/
namespace Go.Proofs.YtngpmilojfbpmaaDoor
open Go Go.RowKit
set_option maxRecDepth 100000

/-- The first place of a key that is not in the set; -1: there is none. -/
def IxPost (ds ks : List (List Int)) (w : World) (e : Ending) (w' : World) : Prop :=
  Below w.heap.size w w' ∧ ((e = .returned (.int .i64 (-1)) ∧ ∀ d ∈ ds, d ∈ ks) ∨ ∃ i : Nat, e = .returned (.int .i64 (i : Int)) ∧ i < ds.length ∧ (∀ j d, j < i → ds[j]? = some d → d ∈ ks) ∧ ∀ d, ds[i]? = some d → d ∉ ks)
set_option maxHeartbeats 2000000 in
theorem dindex_walk {w : World} {sb qm : Nat} {ks : List (List Int)} (u : Value) (ds : List (List Int)) (h : SetAt w sb qm ks) (hu : DsIn w u ds) (hg : ∀ k ∈ ds, goodK k) (hl : ds.length ≤ 1000000) : Calls Tryd.prog 72 #[u, predV sb] w (IxPost ds ks w) := by
  obtain ⟨ka, kc, rfl, -, -⟩ := id hu
  obtain ⟨n, hn⟩ : ∃ n, Hid (ds.length = n) := ⟨_, rfl⟩
  unfold IxPost
  rw [hn.out] at hu hl ⊢
  have HU := Lib.hid hu
  have HS := Lib.hid h
  have HG := Lib.hid hg
  have H32 : Hid (∀ k ∈ ds, k.length = 32) := fun k hk => (hg k hk).1
  clear hu h hg
  go_enter Tryd.func72, Tryd.ntmps72
  go_wp2
  go_loopw [8, 5] (fun iv _ wr => ∃ i : Nat, i ≤ n ∧ iv = .int .i64 (i : Int) ∧ Below w.heap.size w wr ∧ Hid (∀ j d, j < i → ds[j]? = some d → d ∈ ks)) (fun iv _ _ => n - (intOf iv).toNat)
  case atStart => exact ⟨0, Nat.zero_le _, rfl, Below.refl _ _, fun j d hj => absurd hj (by omega)⟩
  case round =>
    obtain ⟨i, hi, rfl, hbe, hall⟩ := hrel
    have BW := Lib.hid hbe
    clear hbe
    by_cases hlt : i < n
    · have r1 : (i : Int) < (n : Int) := by omega
      obtain ⟨pb, po, k, rfl, hpb, hki, hr⟩ := HU.out.part H32.out hn.out hlt
      have RK : Hid (wr.rangeAt pb (po + 32 * i) (ints .u8 k)) := fun j v hv => by rw [BW.out.cell (p := ⟨pb, po + 32 * i + j, none⟩) hpb]; exact hr j v hv
      have HKI := Lib.hid hki
      have GK : Hid (goodK k) := HG.out k (List.mem_of_getElem? hki)
      have KS : Hid ((Tryd.prog.info? 35).map (·.size) = some (ints .u8 k).length) := blk_goodK GK.out.1
      clear hpb hki hr
      obtain ⟨b, hb⟩ : ∃ b, Hid ((!decide (k ∈ ks)) = b) := ⟨_, rfl⟩
      go_upto_region 4 with (fail)
      refine lin_begin (opsOf Tryd.f72 4) (by kernel_rfl) ?_
      refine lin_now 0 (predV sb) (some 11) (by kernel_rfl) (by kernel_rfl) (by kernel_rfl) ?_
      refine lin_now 1 (.slice (some ⟨pb, po, none⟩) n kc) (some 12) (by kernel_rfl) (by kernel_rfl) (by kernel_rfl) ?_
      refine lin_now 2 (.int .i64 (i : Int)) (some 13) (by kernel_rfl) (by kernel_rfl) (by kernel_rfl) ?_
      refine lin_now 3 (.pointer (some ⟨pb, po + 32 * i, none⟩)) (some 14) (by kernel_rfl) (by kernel_rfl) (exec_indexAt 33 (.tmp 12) (.tmp 13) (by kernel_rfl) _ _ _ (by kernel_rfl) (by kernel_rfl) (run_at_dig pb po n kc i hlt wr)) ?_
      refine lin_now 4 (.agg (ints .u8 k).toArray) (some 15) (by kernel_rfl) (by kernel_rfl) (exec_load_mid 35 (.tmp 14) (by kernel_rfl) pb (po + 32 * i) (by kernel_rfl) (ints .u8 k) _ RK.out digUnder rfl KS.out) ?_
      refine lin_call 5 71 #[.agg (ints .u8 k).toArray, .pointer (some ⟨sb, 0, none⟩)] (some 16) _ (by kernel_rfl) (by kernel_rfl) (by kernel_rfl) (pred_walk (HS.out.below BW.out) GK.out b hb.out) ?_
      rintro e w2 ⟨rfl, hb2⟩
      have B2 : Hid (Below w.heap.size w w2) := BW.out.trans (hb2.mono BW.out.size)
      clear hb2 BW
      refine ⟨_, rfl, ?_⟩
      refine lin_done 6 (by kernel_rfl) ?_
      generalize hact : Act.put _ (some 16) _ = act
      simp only [Act.put, List.setIfInBounds_toArray, List.set_cons_succ, List.set_cons_zero] at hact
      subst hact
      cases b with
      | true =>
        go_wp2
        go_ret
        refine ⟨B2.out, .inr ⟨i, rfl, hlt, hall.out, fun d hd => ?_⟩⟩
        rw [HKI.out] at hd
        obtain rfl := Option.some.inj hd
        simpa using hb.out
      | false =>
        go_wp2
        refine ⟨⟨i + 1, by omega, by go_num, B2.out, fun j d hj hd => ?_⟩, by simp [intOf]; omega⟩
        by_cases e : j = i
        · subst e
          rw [HKI.out] at hd
          obtain rfl := Option.some.inj hd
          simpa using hb.out
        · exact hall.out j d (by omega) hd
    · have r1 : ¬ (i : Int) < (n : Int) := by omega
      obtain rfl : i = n := by omega
      go_wp2
      go_ret
      refine ⟨BW.out, .inl ⟨rfl, fun d hd => ?_⟩⟩
      obtain ⟨j, hj, rfl⟩ := List.mem_iff_getElem.1 hd
      exact hall.out j _ (by rw [← hn.out]; exact hj) (List.getElem?_eq_getElem hj)
/-- The keys that stay. -/
def keptD (ds ks : List (List Int)) : List (List Int) := ds.filter (fun d => decide (d ∈ ks))
theorem kept_all {ds ks : List (List Int)} (h : ∀ d ∈ ds, d ∈ ks) : keptD ds ks = ds := List.filter_eq_self.2 (fun d hd => by simpa using h d hd)
theorem kept_take {ds ks : List (List Int)} {j : Nat} {d : List Int} (hj : ds[j]? = some d) : keptD (ds.take (j + 1)) ks = keptD (ds.take j) ks ++ (if d ∈ ks then [d] else []) := by
  unfold keptD
  rw [List.take_add_one, hj, List.filter_append]
  congr 1
  by_cases h : d ∈ ks <;> simp [h]
theorem kept_len (ds ks : List (List Int)) (j : Nat) : (keptD (ds.take j) ks).length ≤ j := Nat.le_trans (List.length_filter_le _ _) (by rw [List.length_take]; omega)
theorem kept_first {ds ks : List (List Int)} {i : Nat} (hi : i < ds.length) (h : ∀ j d, j < i → ds[j]? = some d → d ∈ ks) : keptD (ds.take i) ks = ds.take i := kept_all (fun d hd => by
  obtain ⟨j, hj, rfl⟩ := List.mem_iff_getElem.1 hd
  rw [List.length_take] at hj
  exact h j _ (by omega) (by rw [List.getElem_take]; exact List.getElem?_eq_getElem _))
theorem zero_cells (m : Nat) : ∀ v ∈ (Builtin.zeroCells (ints .u8 (List.replicate 32 0)).toArray m).toList, v.oneCell' = true := fun v hv => by
  unfold Builtin.zeroCells at hv
  rw [Array.toList_map, List.mem_map] at hv
  obtain ⟨j, _, rfl⟩ := hv
  have hs : (ints .u8 (List.replicate 32 0)).toArray.size = 32 := by rw [List.size_toArray, ints_length, List.length_replicate]
  have hj : j % (ints .u8 (List.replicate 32 0)).toArray.size < (ints .u8 (List.replicate 32 0)).toArray.size := Nat.mod_lt _ (by rw [hs]; omega)
  have e := getElem!_pos (ints .u8 (List.replicate 32 0)).toArray (j % (ints .u8 (List.replicate 32 0)).toArray.size) hj
  rw [e]
  have := ints_one .u8 (List.replicate 32 0) _ (List.getElem_mem (l := ints .u8 (List.replicate 32 0)) (by simpa using hj))
  simpa using this
theorem run_clear_dig (D o m c : Nat) (hm : 0 < m) (w : World) (ht : w.there D o (32 * m)) : ∃ zs : List Value, zs.length = 32 * m ∧ (Builtin.clear_ #[33] 0 #[.slice (some ⟨D, o, none⟩) m c]).run Tryd.prog w = .ok (.tuple #[]) (w.setCells D o zs) := by
  have hl : (Builtin.zeroCells (ints .u8 (List.replicate 32 0)).toArray m).toList.length = 32 * m := by
    rw [Array.length_toList, size_zeroCells, List.size_toArray, ints_length, List.length_replicate, Nat.mul_comm]
  have ho := zero_cells m
  have hu : (underlying 33).run Tryd.prog w = .ok (.slice 35) w := by kernel_rfl
  have hz : (zeroValue 35).run Tryd.prog w = .ok (.agg (ints .u8 (List.replicate 32 0)).toArray) w := by kernel_rfl
  obtain ⟨zs, hzs⟩ : ∃ zs, Hid ((Builtin.zeroCells (ints .u8 (List.replicate 32 0)).toArray m).toList = zs) := ⟨_, rfl⟩
  rw [hzs.out] at hl ho
  refine ⟨zs, hl, ?_⟩
  have h := run_storeCells_cells (P := Tryd.prog) D o zs 0 w (fun j hj => by simpa using (ht j (by omega)).1) (fun j hj => by simpa using (ht j (by omega)).2) ho
  rw [Nat.add_zero] at h
  have hc := hzs.out
  generalize hA : (ints .u8 (List.replicate 32 0)).toArray = A at *
  obtain ⟨m', rfl⟩ : ∃ m', m = m' + 1 := ⟨m - 1, by omega⟩
  simp [Builtin.clear_, hu, hz, hc, h, Value.cells]
theorem run_dig_tail (D n cap k : Nat) (hk : k < cap) (hkn : k ≤ n) (w : World) : (Instr.sliceAt 33 (.slice (some ⟨D, 0, none⟩) n cap) (some (.int .i64 (k : Int))) none none).run Tryd.prog w = .ok (.slice (some ⟨D, 32 * k, none⟩) (n - k) (cap - k)) w := by
  have hz : (sizeOf (Tryd.prog.elem 33)).run Tryd.prog w = .ok 32 w := by kernel_rfl
  show (Instr.slice 33 (.slice (some ⟨D, 0, none⟩) n cap) (some (.int .i64 (k : Int))) none none).run Tryd.prog w = _
  rw [run_slice_l w 33 _ _ _ elemDigV .i64 (k : Int) (by omega) (by omega), hz]
  simp only [Result.andThen_ok, sliced, Int.toNat_natCast]
  rw [if_neg (by omega), Option.map_some, Addr.add_mid, Nat.zero_add, Nat.mul_comm]
theorem run_dig_head (D n cap k : Nat) (hk : k < cap) (w : World) : (Instr.sliceAt 33 (.slice (some ⟨D, 0, none⟩) n cap) none (some (.int .i64 (k : Int))) none).run Tryd.prog w = .ok (.slice (some ⟨D, 0, none⟩) k cap) w := by
  have hz : (sizeOf (Tryd.prog.elem 33)).run Tryd.prog w = .ok 32 w := by kernel_rfl
  show (Instr.slice 33 (.slice (some ⟨D, 0, none⟩) n cap) none (some (.int .i64 (k : Int))) none).run Tryd.prog w = _
  rw [run_slice_h w 33 _ _ _ elemDigV .i64 (k : Int) (by omega) (by omega), hz]
  simp only [Result.andThen_ok, sliced, Int.toNat_natCast]
  rw [if_neg (by omega), Option.map_some, Addr.add_mid]
  rfl
def DelPost (base : Nat) (ds ks : List (List Int)) (w : World) (e : Ending) (w' : World) : Prop := ∃ v, e = .returned v ∧ OwnD w' base v (keptD ds ks) ∧ Below base w w'
set_option maxHeartbeats 4000000 in
theorem ddel_walk {w : World} {sb qm base : Nat} {ks : List (List Int)} (u : Value) (ds : List (List Int)) (h : SetAt w sb qm ks) (ho : OwnD w base u ds) (hbase : base ≤ w.heap.size) (hg : ∀ k ∈ ds, goodK k) (hl : ds.length ≤ 1000000) : Calls Tryd.prog 43 #[u, predV sb] w (DelPost base ds ks w) := by
  obtain ⟨n, hn⟩ : ∃ n, Hid (ds.length = n) := ⟨_, rfl⟩
  have HO := Lib.hid ho
  have HS := Lib.hid h
  have HG := Lib.hid hg
  rw [hn.out] at hl
  have HIN := Lib.hid ho.in
  rcases ho.2 with ⟨rfl, h0⟩ | ⟨D, cap, cur, rfl, hbD, hD, hc, hcm, hcs, hct⟩
  · clear ho h hg
    have hz : ds = [] := List.eq_nil_of_length_eq_zero h0
    subst hz
    go_enter Tryd.func43, Tryd.ntmps43
    go_wp2_with fail
    refine (dindex_walk _ [] HS.out HIN.out (fun k hk => by simp at hk) (Nat.zero_le _)).mono ?_
    rintro e w1 ⟨hb1, ⟨rfl, _⟩ | ⟨i, _, hi, _⟩⟩
    · have B1 := Lib.hid hb1
      clear hb1
      go_wp2
      go_ret
      exact ⟨_, rfl, HO.out.below B1.out, B1.out.mono hbase⟩
    · exact absurd hi (by simp)
  · rw [hn.out] at hc hct ⊢
    have HIN2 : Hid (DsIn w (.slice (some ⟨D, 0, none⟩) n cap) ds) := by have h := HIN.out; rw [hn.out] at h; exact h
    have HO2 : Hid (OwnD w base (.slice (some ⟨D, 0, none⟩) n cap) ds) := by have h := HO.out; rw [hn.out] at h; exact h
    obtain ⟨rest, hrest⟩ : ∃ rest, cur.toList = ints .u8 ds.flatten ++ rest := ⟨cur.toList.drop (n * 32), by rw [← hct, List.take_append_drop]⟩
    have hdg : Dg w D 35 ds rest := by
      unfold Dg Blk
      rw [hD, ← hrest]
    have H32 : Hid (∀ k ∈ ds, k.length = 32) := fun k hk => (hg k hk).1
    have HRL : Hid (32 * n + rest.length = 32 * cap) := by
      have e := congrArg List.length hrest
      rw [Array.length_toList, hcs, List.length_append, ints_length, flat32_length (ds := ds) H32.out, hn.out] at e
      unfold Hid
      omega
    have HDG := Lib.hid hdg
    have sbD : sb ≠ D := fun e => by
      have h1 := h.1
      have h2 : Blk w D 35 _ := hdg
      unfold Blk at h1 h2
      rw [e, h2] at h1
      simp at h1
    have qmD : qm ≠ D := fun e => by
      obtain ⟨_, kset, vs, hm, _⟩ := h
      exact (hm.notcells hdg) e.symm
    have DL : Hid (D < w.heap.size) := hdg.lt
    clear ho h hg HO HIN hD hcs hct hrest hdg
    go_enter Tryd.func43, Tryd.ntmps43
    go_wp2_with fail
    refine (dindex_walk _ ds HS.out HIN2.out HG.out (by rw [hn.out]; exact hl)).mono ?_
    rintro e w1 ⟨hb1, ⟨rfl, hall⟩ | ⟨i0, rfl, hi0, hlow, hat⟩⟩
    · have B1 := Lib.hid hb1
      have HALL := Lib.hid hall
      clear hb1 hall
      go_wp2
      go_ret
      exact ⟨_, rfl, by rw [kept_all HALL.out]; exact HO2.out.below B1.out, B1.out.mono hbase⟩
    · rw [hn.out] at hi0
      have B1 := Lib.hid hb1
      have HLOW := Lib.hid hlow
      have HAT := Lib.hid hat
      clear hb1 hlow hat
      have START : Hid (keptD (ds.take (i0 + 1)) ks = ds.take i0) := by
        obtain ⟨d0, hi⟩ : ∃ d, ds[i0]? = some d := ⟨_, List.getElem?_eq_getElem (by rw [hn.out]; exact hi0)⟩
        unfold Hid
        rw [kept_take hi, kept_first (by rw [hn.out]; exact hi0) HLOW.out, if_neg (HAT.out _ hi), List.append_nil]
      have q1 : ((i0 : Int) == -1) = false := by simp
      go_wp2
      go_loopw [6, 5] (fun jv iv wr => ∃ (i j : Nat) (L : List (List Int)), i < j ∧ j ≤ n ∧ jv = .int .i64 (j : Int) ∧ iv = .int .i64 (i : Int) ∧ Hid (L.length = n ∧ all32 L ∧ L.take i = keptD (ds.take j) ks ∧ L.drop j = ds.drop j) ∧ Dg wr D 35 L rest ∧ Upd D w wr) (fun jv _ _ => n - (intOf jv).toNat)
      case atStart => exact ⟨i0, i0 + 1, ds, by omega, by omega, by go_num, rfl, ⟨hn.out, H32.out, START.out.symm, rfl⟩, HDG.out.below B1.out DL.out, Upd.of_below B1.out (Nat.le_refl _)⟩
      case round =>
        obtain ⟨i, j, L, hij, hj, rfl, rfl, hL, hdg, hup⟩ := hrel
        have DW := Lib.hid hdg
        have UW := Lib.hid hup
        clear hdg hup START HLOW HAT B1
        by_cases hlt : j < n
        · have r1 : (j : Int) < (n : Int) := by omega
          obtain ⟨k, hk⟩ : ∃ k, ds[j]? = some k := ⟨_, List.getElem?_eq_getElem (by rw [hn.out]; exact hlt)⟩
          have hLk : L[j]? = some k := by
            have := congrArg (fun l => l[0]?) hL.out.2.2.2
            simpa [List.getElem?_drop, hk] using this
          have HKJ := Lib.hid hk
          have GK : Hid (goodK k) := HG.out k (List.mem_of_getElem? hk)
          have KS : Hid ((Tryd.prog.info? 35).map (·.size) = some (ints .u8 k).length) := blk_goodK GK.out.1
          have RK : Hid (wr.rangeAt D (32 * j) (ints .u8 k)) := DW.out.range hL.out.2.1 hLk
          obtain ⟨q, hq⟩ : ∃ q, Hid (wr.heap.size = q) := ⟨_, rfl⟩
          have DQ : D < q := by rw [← hq.out]; exact DW.out.lt
          obtain ⟨c, hcc⟩ : ∃ c, Hid (decide (k ∈ ks) = c) := ⟨_, rfl⟩
          clear hk hLk
          go_upto_region 7 with (fail)
          refine lin_begin (opsOf Tryd.f43 7) (by kernel_rfl) ?_
          refine lin_now 0 (.slice (some ⟨D, 0, none⟩) n cap) (some 22) (by kernel_rfl) (by kernel_rfl) (by kernel_rfl) ?_
          refine lin_now 1 (.int .i64 (j : Int)) (some 23) (by kernel_rfl) (by kernel_rfl) (by kernel_rfl) ?_
          refine lin_now 2 (.pointer (some ⟨D, 0 + 32 * j, none⟩)) (some 24) (by kernel_rfl) (by kernel_rfl) (exec_indexAt 33 (.tmp 22) (.tmp 23) (by kernel_rfl) _ _ _ (by kernel_rfl) (by kernel_rfl) (run_at_dig D 0 n cap j hlt wr)) ?_
          refine lin_now 3 (.agg (ints .u8 k).toArray) (some 25) (by kernel_rfl) (by kernel_rfl) (exec_load_mid 35 (.tmp 24) (by kernel_rfl) D (0 + 32 * j) (by kernel_rfl) (ints .u8 k) _ (by rw [Nat.zero_add]; exact RK.out) digUnder rfl KS.out) ?_
          refine lin_alloc 4 35 (ints .u8 z32) (q) (some 7) (by kernel_rfl) (by kernel_rfl) (by kernel_rfl) zeroDig hq ?_
          intro w2 b2 be2 hs2
          refine lin_put 5 35 (.tmp 7) (.tmp 25) (q) _ (ints .u8 z32) (ints .u8 k) (by kernel_rfl) (by kernel_rfl) (by kernel_rfl) (by kernel_rfl) (by kernel_rfl) b2 ((by simp only [ints_length, GK.out.1, z32_length])) KS.out (ints_oneCell _ _) ?_
          intro w3 b3 u3
          refine lin_done 6 (by kernel_rfl) ?_
          have X3 := Lib.hid b3
          have BW3 : Hid (Below wr.heap.size wr w3) := u3.below (by rw [hq.out]; exact be2) (by rw [hq.out]; exact Nat.le_refl _) (by rw [hs2.out, hq.out]; omega)
          clear b2 be2 hs2 b3 u3
          generalize hact : Act.put _ none undef = act
          simp only [Act.put, List.setIfInBounds_toArray, List.set_cons_succ, List.set_cons_zero] at hact
          subst hact
          have D3 : Hid (Dg w3 D 35 L rest) := DW.out.below BW3.out DW.out.lt
          have U3 : Hid (Upd D w w3) := UW.out.trans (Upd.of_below BW3.out (Nat.le_refl _))
          have S3 : Hid (SetAt w3 sb qm ks) := HS.out.step (F := [D]) (F' := [D]) (Step.of_upd U3.out (by simp)) (by simpa using sbD) (by simpa using qmD)
          go_upto_region 8 with (fail)
          refine lin_begin (opsOf Tryd.f43 8) (by kernel_rfl) ?_
          refine lin_now 0 (predV sb) (some 26) (by kernel_rfl) (by kernel_rfl) (by kernel_rfl) ?_
          refine lin_now 1 (.agg (ints .u8 k).toArray) (some 27) (by kernel_rfl) (by kernel_rfl) (exec_load_mid 35 (.tmp 7) (by kernel_rfl) q 0 (by kernel_rfl) (ints .u8 k) _ X3.out.whole digUnder rfl KS.out) ?_
          refine lin_call 2 71 #[.agg (ints .u8 k).toArray, .pointer (some ⟨sb, 0, none⟩)] (some 28) _ (by kernel_rfl) (by kernel_rfl) (by kernel_rfl) (pred_walk S3.out GK.out (!c) (by rw [hcc.out])) ?_
          rintro e w4 ⟨rfl, hb4⟩
          have D4 : Hid (Dg w4 D 35 L rest) := D3.out.below hb4 D3.out.lt
          have U4 : Hid (Upd D w w4) := U3.out.trans (Upd.of_below hb4 (Nat.le_refl _))
          have X4 : Hid (Blk w4 q 35 (ints .u8 k)) := X3.out.below hb4 X3.out.lt
          clear hb4 D3 U3 S3 X3 BW3 DW UW RK
          refine ⟨_, rfl, ?_⟩
          refine lin_now 3 (.bool c) (some 29) (by kernel_rfl) (by kernel_rfl) (by cases c <;> kernel_rfl) ?_
          refine lin_done 4 (by kernel_rfl) ?_
          generalize hact : Act.put _ (some 29) _ = act
          simp only [Act.put, List.setIfInBounds_toArray, List.set_cons_succ, List.set_cons_zero] at hact
          subst hact
          cases c with
          | true =>
            have hmem : k ∈ ks := by simpa using hcc.out
            have hin : i < n := by omega
            go_upto_region 9 with (fail)
            refine lin_begin (opsOf Tryd.f43 9) (by kernel_rfl) ?_
            refine lin_now 0 (.slice (some ⟨D, 0, none⟩) n cap) (some 30) (by kernel_rfl) (by kernel_rfl) (by kernel_rfl) ?_
            refine lin_now 1 (.int .i64 (i : Int)) (some 31) (by kernel_rfl) (by kernel_rfl) (by kernel_rfl) ?_
            refine lin_now 2 (.agg (ints .u8 k).toArray) (some 32) (by kernel_rfl) (by kernel_rfl) (exec_load_mid 35 (.tmp 7) (by kernel_rfl) q 0 (by kernel_rfl) (ints .u8 k) _ X4.out.whole digUnder rfl KS.out) ?_
            refine lin_now 3 (.pointer (some ⟨D, 32 * i, none⟩)) (some 33) (by kernel_rfl) (by kernel_rfl) ((exec_indexAt 33 (.tmp 30) (.tmp 31) (by kernel_rfl) _ _ _ (by kernel_rfl) (by kernel_rfl) (by rw [run_at_dig D 0 n cap i hin w4, Nat.zero_add]))) ?_
            have dg5 : Dg (w4.setCells D (32 * i) (ints .u8 k)) D 35 (L.set i k) rest := D4.out.store hL.out.2.1 (by rw [hL.out.1]; exact hin) k GK.out.1
            have u5 : Upd D w (w4.setCells D (32 * i) (ints .u8 k)) := U4.out.trans ((Upd.refl D w4).setCells _ (32 * i))
            refine lin_store 4 (w4.setCells D (32 * i) (ints .u8 k)) (by kernel_rfl) (by kernel_rfl) (exec_store_mid 35 (.tmp 33) (.tmp 32) (by kernel_rfl) D (32 * i) (ints .u8 k) (by kernel_rfl) (by kernel_rfl) (by rw [ints_length, GK.out.1]; exact D4.out.there hL.out.2.1 (by rw [hL.out.1]; exact hin)) KS.out (ints_oneCell _ _)) ?_
            refine lin_done 5 (by kernel_rfl) ?_
            generalize w4.setCells D (32 * i) (ints .u8 k) = w5 at dg5 u5 ⊢
            have D5 := Lib.hid dg5
            have U5 := Lib.hid u5
            have L5 : Hid ((L.set i k).length = n ∧ all32 (L.set i k) ∧ (L.set i k).take (i + 1) = keptD (ds.take (j + 1)) ks ∧ (L.set i k).drop (j + 1) = ds.drop (j + 1)) := by
              refine ⟨by rw [List.length_set]; exact hL.out.1, hL.out.2.1.set i GK.out.1, ?_, ?_⟩
              · rw [kept_take HKJ.out, if_pos hmem, ← hL.out.2.2.1, List.take_add_one, List.take_set_of_le (Nat.le_refl _), List.getElem?_set, if_pos rfl, if_pos (by rw [hL.out.1]; exact hin)]
                rfl
              · rw [List.drop_set_of_lt (by omega), ← List.drop_drop, hL.out.2.2.2, List.drop_drop]
            clear dg5 u5 D4 U4 X4
            generalize hact : Act.put _ none undef = act
            simp only [Act.put, List.setIfInBounds_toArray, List.set_cons_succ, List.set_cons_zero] at hact
            subst hact
            go_wp2
            exact ⟨⟨i + 1, j + 1, L.set i k, by omega, by omega, by go_num, by go_num, L5, D5.out, U5.out⟩, by simp [intOf]; omega⟩
          | false =>
            have hmem : k ∉ ks := by simpa using hcc.out
            have L5 : Hid (L.length = n ∧ all32 L ∧ L.take i = keptD (ds.take (j + 1)) ks ∧ L.drop (j + 1) = ds.drop (j + 1)) := ⟨hL.out.1, hL.out.2.1, by rw [kept_take HKJ.out, if_neg hmem, List.append_nil]; exact hL.out.2.2.1, by rw [← List.drop_drop, hL.out.2.2.2, List.drop_drop]⟩
            go_wp2
            exact ⟨⟨i, j + 1, L, by omega, by omega, by go_num, by trivial, L5, D4.out, U4.out⟩, by simp [intOf]; omega⟩
        · have r1 : ¬ (j : Int) < (n : Int) := by omega
          obtain rfl : j = n := by omega
          have hic : i < cap := by omega
          have KD : Hid (keptD ds ks = L.take i) := by
            have := hL.out.2.2.1
            rw [List.take_of_length_le (l := ds) (by rw [hn.out]; exact Nat.le_refl _)] at this
            exact this.symm
          obtain ⟨zs, hzl, hclr⟩ := run_clear_dig D (32 * i) (j - i) (cap - i) (by omega) wr (fun x hx => by
            have hb : Blk wr D 35 _ := DW.out
            refine hb.there (32 * i) (32 * (j - i)) ?_ x hx
            rw [List.length_append, ints_length, flat32_length hL.out.2.1, hL.out.1]
            omega)
          go_upto_region 11 with (fail)
          refine lin_begin (opsOf Tryd.f43 11) (by kernel_rfl) ?_
          refine lin_now 0 (.slice (some ⟨D, 0, none⟩) j cap) (some 36) (by kernel_rfl) (by kernel_rfl) (by kernel_rfl) ?_
          refine lin_now 1 (.int .i64 (i : Int)) (some 37) (by kernel_rfl) (by kernel_rfl) (by kernel_rfl) ?_
          refine lin_now 2 (.slice (some ⟨D, 32 * i, none⟩) (j - i) (cap - i)) (some 38) (by kernel_rfl) (by kernel_rfl) (exec_of (Instr.sliceAt 33 (.slice (some ⟨D, 0, none⟩) j cap) (some (.int .i64 (i : Int))) none none) _ (by kernel_rfl) (run_dig_tail D j cap i hic (by omega) wr)) ?_
          have b6 : Blk (wr.setCells D (32 * i) zs) D 35 (splice (ints .u8 L.flatten ++ rest) (32 * i) zs) := Blk.setCells zs DW.out (32 * i) (by rw [List.length_append, ints_length, flat32_length hL.out.2.1, hL.out.1, hzl]; omega)
          have u6 : Upd D w (wr.setCells D (32 * i) zs) := UW.out.trans ((Upd.refl D wr).setCells _ (32 * i))
          refine lin_value 3 (.tuple #[]) none (wr.setCells D (32 * i) zs) (by kernel_rfl) (by kernel_rfl) (exec_of (Builtin.clear_ #[33] 0 #[.slice (some ⟨D, 32 * i, none⟩) (j - i) (cap - i)]) _ (by kernel_rfl) hclr) ?_
          refine lin_done 4 (by kernel_rfl) ?_
          have O6 : Hid (OwnD (wr.setCells D (32 * i) zs) base (.slice (some ⟨D, 0, none⟩) i cap) (keptD ds ks)) := by
            have hkl : (keptD ds ks).length = i := by rw [KD.out, List.length_take, hL.out.1]; omega
            have h32k : all32 (keptD ds ks) := fun x hx => by rw [KD.out] at hx; exact hL.out.2.1 x (List.mem_of_mem_take hx)
            have hfl : (keptD ds ks).flatten.length = 32 * i := by rw [flat32_length h32k, hkl]
            unfold OwnD
            rw [hkl]
            refine ⟨by rw [ints_length, hfl]; omega, .inr ⟨D, cap, _, rfl, hbD, b6, by omega, hcm, ?_, ?_⟩⟩
            · rw [List.size_toArray, splice_length (by rw [List.length_append, ints_length, flat32_length hL.out.2.1, hL.out.1, hzl]; omega), List.length_append, ints_length, flat32_length hL.out.2.1, hL.out.1]
              have := HRL.out
              omega
            · show (splice _ _ _).take _ = _
              unfold splice
              have hle : 32 * i ≤ L.flatten.length := by rw [flat32_length hL.out.2.1, hL.out.1]; omega
              rw [List.append_assoc, List.take_append_of_le_length (by rw [List.length_take, List.length_append, ints_length]; omega), List.take_take, show min (i * 32) (32 * i) = 32 * i by omega, List.take_append_of_le_length (by rw [ints_length]; exact hle), ints_take, flat32_take hL.out.2.1, KD.out]
          have B6 : Hid (Below base w (wr.setCells D (32 * i) zs)) := u6.below (Below.refl _ _) hbD hbase
          clear hclr b6 u6 hzl DW UW
          generalize wr.setCells D (32 * i) zs = w6 at O6 B6 ⊢
          generalize hact : Act.put _ none _ = act
          simp only [Act.put, List.setIfInBounds_toArray, List.set_cons_succ, List.set_cons_zero] at hact
          subst hact
          go_upto_region 12 with (fail)
          refine lin_begin (opsOf Tryd.f43 12) (by kernel_rfl) ?_
          refine lin_now 0 (.slice (some ⟨D, 0, none⟩) j cap) (some 39) (by kernel_rfl) (by kernel_rfl) (by kernel_rfl) ?_
          refine lin_now 1 (.int .i64 (i : Int)) (some 40) (by kernel_rfl) (by kernel_rfl) (by kernel_rfl) ?_
          refine lin_now 2 (.slice (some ⟨D, 0, none⟩) i cap) (some 41) (by kernel_rfl) (by kernel_rfl) (exec_of (Instr.sliceAt 33 (.slice (some ⟨D, 0, none⟩) j cap) none (some (.int .i64 (i : Int))) none) _ (by kernel_rfl) (run_dig_head D j cap i hic w6)) ?_
          refine lin_now 3 (.slice (some ⟨D, 0, none⟩) i cap) (some 4) (by kernel_rfl) (by kernel_rfl) (by kernel_rfl) ?_
          refine lin_done 4 (by kernel_rfl) ?_
          generalize hact : Act.put _ (some 4) _ = act
          simp only [Act.put, List.setIfInBounds_toArray, List.set_cons_succ, List.set_cons_zero] at hact
          subst hact
          go_wp2
          go_ret
          exact ⟨_, rfl, O6.out, B6.out⟩
end Go.Proofs.YtngpmilojfbpmaaDoor
