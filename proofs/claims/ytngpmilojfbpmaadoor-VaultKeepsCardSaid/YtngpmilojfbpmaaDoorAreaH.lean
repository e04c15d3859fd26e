/- Package area: Begin. -/
import Derived.Test.YtngpmilojfbpmaaDoorAreaG
namespace Go.Proofs.YtngpmilojfbpmaaDoor
open Go Go.RowKit
set_option maxRecDepth 100000

/-- The first k records' sectors. -/
def rowsK (g m : Nat) (zss : List (List Int)) : Nat → List Int
  | 0 => []
  | k + 1 => rowsK g m zss k ++ packF g (m + cntK zss k) (rowAt zss k)
theorem rowsK_length (g m : Nat) (zss : List (List Int)) : ∀ k, (rowsK g m zss k).length = 64 * cntK zss k
  | 0 => rfl
  | k + 1 => by rw [rowsK, List.length_append, rowsK_length g m zss k, packF_length, cntK]; omega
theorem putsK_pre (s : List Int) (n0 : Nat) (a b : List Int) {n : Nat} (hl : a.length = 64 * n) : ∀ k, k ≤ n → putsK s n0 (a ++ b) k = putsK s n0 a k
  | 0, _ => rfl
  | k + 1, h => by rw [putsK, putsK, putsK_pre s n0 a b hl k (by omega), getB_append hl (by omega)]
theorem putsK_add (s : List Int) (n0 : Nat) (a b : List Int) {n : Nat} (hl : a.length = 64 * n) : ∀ k, putsK (putsK s n0 a n) (n0 + n) b k = putsK s n0 (a ++ b) (n + k)
  | 0 => (putsK_pre s n0 a b hl n (Nat.le_refl _)).symm
  | k + 1 => by rw [putsK, putsK_add s n0 a b hl k, ← Nat.add_assoc, putsK, getB_behind hl, Nat.add_assoc]
theorem wrsAt_pre (n0 : Nat) (a b : List Int) {n : Nat} (hl : a.length = 64 * n) : ∀ k, k ≤ n → wrsAt n0 (a ++ b) k = wrsAt n0 a k
  | 0, _ => rfl
  | k + 1, h => by rw [wrsAt, wrsAt, wrsAt_pre n0 a b hl k (by omega), getB_append hl (by omega)]
theorem wrsAt_add (n0 : Nat) (a b : List Int) {n : Nat} (hl : a.length = 64 * n) : ∀ k, wrsAt n0 a n ++ wrsAt (n0 + n) b k = wrsAt n0 (a ++ b) (n + k)
  | 0 => by rw [wrsAt, List.append_nil, Nat.add_zero, wrsAt_pre n0 a b hl n (Nat.le_refl _)]
  | k + 1 => by rw [wrsAt, ← List.append_assoc, wrsAt_add n0 a b hl k, ← Nat.add_assoc, wrsAt, getB_behind hl, Nat.add_assoc]
theorem rowsK_more (g m : Nat) (zss : List (List Int)) (i : Nat) : ∀ n, i ≤ n → ∃ rest, rowsK g m zss n = rowsK g m zss i ++ rest
  | 0, h => ⟨[], by rw [show i = 0 by omega, List.append_nil]⟩
  | n + 1, h => by
    by_cases e : i = n + 1
    · exact ⟨[], by rw [e, List.append_nil]⟩
    · obtain ⟨rest, hr⟩ := rowsK_more g m zss i n (by omega)
      exact ⟨rest ++ packF g (m + cntK zss n) (rowAt zss n), by rw [rowsK, hr, List.append_assoc]⟩
theorem KW.step {F F' : List Nat} {w w' : World} (h : KW w) (hs : Step F w F' w') (hF : 4 ∉ F) : KW w' := fun i hi => by
  rw [World.cell?_of_block (w := w) (a := ⟨4, i, none⟩) (hs.block _ h.lt hF)]
  exact h i hi
theorem getB_one {l : List Int} (h : l.length = 64) : getB l 0 = l := by unfold getB; rw [Nat.mul_zero, List.drop_zero, List.take_of_length_le (by omega)]
def nil15 : Ending := .returned (.tuple #[.pointer none, .int .i64 15])
def headL (gen T : Nat) : List Int := packF gen 0 (beB 4 T)
theorem headL_length (gen T : Nat) : (headL gen T).length = 64 := by unfold headL; rw [packF_length, beB_length]; rfl
def BegStop (F : List Nat) (d sz : Nat) (seen dur : List Int) (pend : List Wr) (left : Int) (f T : Nat) (R : List Int) (w : World) (e : Ending) (w' : World) : Prop :=
  doneN left T < T ∧ e = nil15 ∧ ∃ F', Dk w' F' d sz (putsK seen (f + 1) R (doneN left T)) dur (pend ++ wrsAt (f + 1) R (doneN left T)) (leftK left (doneN left T)) ∧ Step F w F' w'
def BegHead (F : List Nat) (d sz : Nat) (seen dur : List Int) (pend : List Wr) (left : Int) (f T : Nat) (R : List Int) (w : World) (e : Ending) (w' : World) : Prop :=
  doneN left T = T ∧ leftK left T = 0 ∧ e = nil15 ∧ ∃ F', Dk w' F' d sz (putsK seen (f + 1) R T) (applyK dur (pend ++ wrsAt (f + 1) R T) (pend ++ wrsAt (f + 1) R T).length) [] 0 ∧ Step F w F' w'
def BegOk (E F : List Nat) (d sz : Nat) (seen dur : List Int) (pend : List Wr) (left : Int) (f T gen : Nat) (R : List Int) (zss : List (List Int)) (w : World) (e : Ending) (w' : World) : Prop :=
  doneN left T = T ∧ leftK left T ≠ 0 ∧ ∃ ab, e = .returned (.tuple #[.pointer (some ⟨ab, 0, none⟩), .int .i64 0]) ∧ ∃ A' F', Ar w' A' (E ++ F') ab d f (sz / 2) gen (1 + T) false zss ∧
    Dk w' F' d sz (putB (putsK seen (f + 1) R T) f (headL gen T)) (applyK (applyK dur (pend ++ wrsAt (f + 1) R T) (pend ++ wrsAt (f + 1) R T).length) [(f, headL gen T)] 1) [] (leftK left (T + 1)) ∧ Step F w (A' ++ F') w'
def BeginPost (E F : List Nat) (d sz : Nat) (seen dur : List Int) (pend : List Wr) (left : Int) (gen : Nat) (zss : List (List Int)) (w : World) (e : Ending) (w' : World) : Prop :=
  ((4294967295 < gen ∨ sz / 2 - 1 < cntK zss zss.length) ∧ e = nil15 ∧ Below w.heap.size w w') ∨
  (gen ≤ 4294967295 ∧ cntK zss zss.length ≤ sz / 2 - 1 ∧ ∃ f, FreshAt seen (sz / 2) f ∧
    (BegStop F d sz seen dur pend left f (cntK zss zss.length) (rowsK gen 1 zss zss.length) w e w' ∨ BegHead F d sz seen dur pend left f (cntK zss zss.length) (rowsK gen 1 zss zss.length) w e w' ∨ BegOk E F d sz seen dur pend left f (cntK zss zss.length) gen (rowsK gen 1 zss zss.length) zss w e w'))
theorem leftK_add {left : Int} {a b : Nat} (h : doneN left a = a) : leftK (leftK left a) b = leftK left (a + b) := by
  unfold doneN at h
  unfold leftK
  by_cases h0 : left < 0
  · rw [if_pos h0, if_pos h0, if_pos h0]
  · rw [if_neg h0] at h
    rw [if_neg h0, if_neg h0, if_neg (by omega)]
    omega
theorem doneN_next {left : Int} {a b : Nat} (h : doneN left a = a) : doneN left (a + b) = a + doneN (leftK left a) b := by
  unfold doneN leftK at *
  by_cases h0 : left < 0
  · rw [if_pos h0, if_pos h0, if_pos h0]
  · rw [if_neg h0] at h
    rw [if_neg h0, if_neg h0, if_neg (by omega)]
    omega
theorem doneN_stop {left : Int} {a T : Nat} (h : doneN left a < a) (hT : a ≤ T) : doneN left T = doneN left a := by
  unfold doneN at *
  by_cases h0 : left < 0
  · rw [if_pos h0] at h; omega
  · rw [if_neg h0] at h ⊢
    rw [if_neg h0]
    omega
theorem Ar.empty_more {w : World} {A E F : List Nat} {ab d first half gen next : Nat} {stuck : Bool} (h : Ar w A F ab d first half gen next stuck []) (hA : ∀ k ∈ A, k ∉ E) : Ar w A (E ++ F) ab d first half gen next stuck [] := by
  obtain ⟨rv, rfl, hx⟩ := h
  obtain ⟨vs, h1, h2⟩ := hx.hr
  refine ⟨rv, rfl, ⟨hx.hb, ⟨vs, h1, fun i v zs hv hz => by simp at hz⟩, hx.n1, fun k hk hc => ?_, hx.short⟩⟩
  rcases List.mem_append.1 hc with h | h
  · exact hA k hk h
  · exact hx.n2 k hk h
theorem take_snoc {zss : List (List Int)} {i : Nat} (hi : i < zss.length) : zss.take i ++ [rowAt zss i] = zss.take (i + 1) := by
  rw [List.take_add_one, rowAt_get hi]; rfl
set_option maxHeartbeats 1000000 in
theorem begin_long (d sz : Nat) (F : List Nat) (seen dur : List Int) (pend : List Wr) (left : Int) (v : Value) (zss : List (List Int)) (w : World) (h : Dk w F d sz seen dur pend left) (h4 : 4 ≤ sz) (hv : PartsOff F w v zss) (hl : zss.length ≤ 1000000) (hlong : ¬ ∀ zs ∈ zss, zs.length ≤ 2000) :
    Calls Tryd.prog 67 #[.pointer (some ⟨d, 0, none⟩), v] w fun e w' => e = .returned (.tuple #[.pointer none, .int .i64 10]) ∧ w = w' := by
  have HD := Lib.hid h
  have HV : Hid (PartsOff [] w v zss) := hv.more (fun k hk => by simp at hk)
  obtain ⟨a, cap, ps, rfl, -⟩ := id hv
  obtain ⟨m, hm⟩ : ∃ m, Hid (zss.length = m) := ⟨_, rfl⟩
  rw [hm.out] at HV ⊢
  have q4 : ¬ (sz : Int) < 4 := by omega
  have HLO := Lib.hid hlong
  clear h hv hlong
  go_enter Tryd.func67, Tryd.ntmps67
  go_wp2_with fail
  refine (size_walk d sz F seen dur pend left _ HD.out).mono ?_
  rintro e w1 ⟨rfl, rfl⟩
  go_wp2_with fail
  refine (contf_walk _ zss _ HV.out hl).mono ?_
  rintro e w2 ⟨⟨b, rfl, hb⟩, rfl⟩
  cases b with
  | false => exact absurd (hb.1 rfl) HLO.out
  | true =>
    clear hb
    go_wp2
    go_ret2
    exact ⟨rfl, rfl⟩
set_option maxHeartbeats 2000000 in
theorem begin_walk (d sz : Nat) (F : List Nat) (seen dur : List Int) (pend : List Wr) (left : Int) (v : Value) (zss : List (List Int)) (w : World) (E : List Nat) (hE : ∀ k ∈ E, k < w.heap.size) (h : Dk w F d sz seen dur pend left) (h4 : 4 ≤ sz) (hby : isBytes seen) (hv : PartsOff F w v zss) (hl : zss.length ≤ 10000) (hsh : ∀ zs ∈ zss, zs.length ≤ 2000) (hK : KW w) (hKF : 4 ∉ F) (hlm : left ≤ 9223372036854775807) (hm : pend.length ≤ 400000) :
    Calls Tryd.prog 67 #[.pointer (some ⟨d, 0, none⟩), v] w (BeginPost E F d sz seen dur pend left ((highK seen sz).toNat + 1) zss w) := by
  have LS : Hid (seen.length = 64 * sz) := by obtain ⟨sB, dB, sc, dc, rs, rd, pv, -, hx⟩ := id h; exact hx.ls
  have SZ : sz ≤ 4096 := by obtain ⟨sB, dB, sc, dc, rs, rd, pv, -, hx⟩ := id h; exact hx.big
  have HD := Lib.hid h
  have HK := Lib.hid hK
  have HBY := Lib.hid hby
  have HKF := Lib.hid hKF
  have HV := Lib.hid hv
  have HSH := Lib.hid hsh
  obtain ⟨a, cap, ps, rfl, -⟩ := id hv
  obtain ⟨m, hm⟩ : ∃ m, Hid (zss.length = m) := ⟨_, rfl⟩
  unfold BeginPost
  rw [hm.out] at HV hl ⊢
  have q4 : ¬ (sz : Int) < 4 := by omega
  obtain ⟨gen, hge⟩ : ∃ g, Hid ((highK seen sz).toNat + 1 = g) := ⟨_, rfl⟩
  have hg1 : 1 ≤ gen := by have := hge.out; omega
  have hg3 : gen ≤ 4294967296 := by have := highK_le hby LS.out sz (Nat.le_refl _); have := hge.out; omega
  rw [hge.out]
  obtain ⟨half, hhf⟩ : ∃ half, Hid (sz / 2 = half) := ⟨_, rfl⟩
  have half2 : 2 ≤ half := by have := hhf.out; omega
  have halfs : half + half ≤ sz := by have := hhf.out; omega
  obtain ⟨T, hT⟩ : ∃ T, Hid (cntK zss m = T) := ⟨_, rfl⟩
  have TB : T ≤ 45 * m := by
    have CK : ∀ k, k ≤ m → cntK zss k ≤ 45 * k := fun k => by
      induction k with
      | zero => exact fun _ => Nat.le_refl _
      | succ k ih =>
        intro hk
        have h1 := ih (by omega)
        have h2 := needN_le (rowAt zss k).length (HSH.out _ (List.mem_of_getElem? (rowAt_get (by rw [hm.out]; omega))))
        rw [cntK]; omega
    rw [← hT.out]; exact CK m (Nat.le_refl _)
  clear h hK hby hKF hv hsh
  unfold BegStop BegHead BegOk
  rw [hhf.out, hT.out]
  go_enter Tryd.func67, Tryd.ntmps67
  go_wp2_with fail
  refine (size_walk d sz F seen dur pend left _ HD.out).mono ?_
  rintro e w1 ⟨rfl, rfl⟩
  go_wp2_with fail
  refine (contf_walk _ zss _ (HV.out.more (fun k hk => by simp at hk)) (by rw [hm.out]; omega)).mono ?_
  rintro e w2 ⟨⟨b, rfl, hb⟩, rfl⟩
  obtain rfl : b = false := hb.2 HSH.out
  clear hb
  go_wp2_with fail
  refine (fresh_walk d sz F seen dur pend left _ HD.out HBY.out h4 HK.out).mono ?_
  rw [hhf.out, hge.out]
  rintro e w3 ⟨ab, rfl, f, A, hfr, har, hst⟩
  have FR := Lib.hid hfr
  have A3 := Lib.hid (har.empty_more (E := E) (fun k hk hc => by rcases hst.fresh k hk with h | h; simp at h; have := hE k hc; omega))
  have E3 : Hid (∀ k ∈ E, k < w3.heap.size) := fun k hk => Nat.lt_of_lt_of_le (hE k hk) hst.size
  have D3 := Lib.hid (HD.out.below hst.below)
  have S3 : Hid (Step F w (A ++ F) w3) := ⟨hst.os, hst.tape, hst.output, hst.size, fun k hk _ => hst.block k hk (by simp), fun k hk => by
    rcases List.mem_append.1 hk with h | h
    · rcases hst.fresh k h with h | h
      · simp at h
      · exact .inr h
    · exact .inl h⟩
  have hfh : f + half ≤ sz := by rcases hfr with ⟨_, e⟩ | ⟨_, e⟩ <;> omega
  have BE3 := Lib.hid hst.below
  clear hfr har hst
  have V3 : Hid (PartsOff (A ++ F) w3 (.slice a m cap) zss) := HV.out.step S3.out
  have KF3 : Hid (4 ∉ A ++ F) := S3.out.off HK.out.lt HKF.out
  have K3 : Hid (KW w3) := HK.out.step S3.out HKF.out
  go_wp2_with fail
  refine (arneed_walk _ zss _ (V3.out.more (fun k hk => by simp at hk)) HSH.out (by rw [hm.out]; omega)).mono ?_
  rintro e w4 ⟨rfl, rfl⟩
  rw [hm.out, hT.out]
  obtain ⟨rv3, hA3, hx3⟩ := id A3.out
  have C3 := Lib.hid hx3.c3
  clear hx3 hA3
  go_upto_region 7 with (fail)
  refine lin_begin (opsOf Tryd.f67 7) (by kernel_rfl) ?_
  refine lin_now 0 (.pointer (some ⟨ab, 0, none⟩)) (some 23) (by kernel_rfl) (by kernel_rfl) (by kernel_rfl) ?_
  refine lin_now 1 (.pointer (some ⟨ab, 0, none⟩)) (some 24) (by kernel_rfl) (by kernel_rfl) (by kernel_rfl) ?_
  refine lin_now 2 (.pointer (some ⟨ab, 3, none⟩)) (some 25) (by kernel_rfl) (by kernel_rfl) (by kernel_rfl) ?_
  refine lin_now 3 (.int .i64 (gen : Int)) (some 26) (by kernel_rfl) (by kernel_rfl) (exec_load_cell 3 (.tmp 25) (by kernel_rfl) ab 3 (by kernel_rfl) _ C3.out _ Tryd.underlying3 rfl) ?_
  refine lin_now 4 (.int .i64 (T : Int)) (some 27) (by kernel_rfl) (by kernel_rfl) (by kernel_rfl) ?_
  by_cases hgen : 4294967295 < gen
  · have G0 := Lib.hid hgen
    refine lin_call 5 86 #[.int .i64 (gen : Int), .int .i64 (T : Int)] (some 28) _ (by kernel_rfl) (by kernel_rfl) (by kernel_rfl) (packhead_no gen T _ hgen) ?_
    rintro e w5 ⟨rfl, hb5⟩
    refine ⟨_, rfl, ?_⟩
    refine lin_now 6 (.tuple #[.slice none 0 0, .bool false]) (some 22) (by kernel_rfl) (by kernel_rfl) (by kernel_rfl) ?_
    refine lin_now 7 (.slice none 0 0) (some 29) (by kernel_rfl) (by kernel_rfl) (by kernel_rfl) ?_
    refine lin_now 8 (.bool false) (some 30) (by kernel_rfl) (by kernel_rfl) (by kernel_rfl) ?_
    refine lin_now 9 (.slice none 0 0) (some 8) (by kernel_rfl) (by kernel_rfl) (by kernel_rfl) ?_
    refine lin_now 10 (.bool false) (some 9) (by kernel_rfl) (by kernel_rfl) (by kernel_rfl) ?_
    refine lin_done 11 (by kernel_rfl) ?_
    have BE5 : Hid (Below w.heap.size w w5) := BE3.out.trans (hb5.mono BE3.out.size)
    clear hb5 A3 D3 S3 V3 K3 C3
    generalize hact : Act.put _ (some 9) _ = act
    simp only [Act.put, List.setIfInBounds_toArray, List.set_cons_succ, List.set_cons_zero] at hact
    subst hact
    go_wp2
    go_ret2
    exact .inl ⟨.inl hgen, rfl, BE5.out⟩
  · have hg2 : gen ≤ 4294967295 := by omega
    refine lin_call 5 86 #[.int .i64 (gen : Int), .int .i64 (T : Int)] (some 28) _ (by kernel_rfl) (by kernel_rfl) (by kernel_rfl) (packhead_ok gen T _ hg1 hg2 K3.out) ?_
    rintro e w5 ⟨G, rfl, hG, hblk, hb5⟩
    refine ⟨_, rfl, ?_⟩
    refine lin_now 6 (.tuple #[.slice (some ⟨G, 0, none⟩) 1 1, .bool true]) (some 22) (by kernel_rfl) (by kernel_rfl) (by kernel_rfl) ?_
    refine lin_now 7 (.slice (some ⟨G, 0, none⟩) 1 1) (some 29) (by kernel_rfl) (by kernel_rfl) (by kernel_rfl) ?_
    refine lin_now 8 (.bool true) (some 30) (by kernel_rfl) (by kernel_rfl) (by kernel_rfl) ?_
    refine lin_now 9 (.slice (some ⟨G, 0, none⟩) 1 1) (some 8) (by kernel_rfl) (by kernel_rfl) (by kernel_rfl) ?_
    refine lin_now 10 (.bool true) (some 9) (by kernel_rfl) (by kernel_rfl) (by kernel_rfl) ?_
    refine lin_done 11 (by kernel_rfl) ?_
    have GX : Hid (Blk w5 G 91 (ints .u8 (headL gen T))) := hblk
    have A5 := Lib.hid (A3.out.below hb5)
    have D5 := Lib.hid (D3.out.below hb5)
    have S5 : Hid (Step F w (A ++ F) w5) := S3.out.trans (Step.of_below hb5 (Nat.le_refl _))
    have V5 : Hid (PartsOff (A ++ F) w5 (.slice a m cap) zss) := V3.out.step (Step.of_below hb5 (Nat.le_refl _))
    have GO : Hid (G ∉ A ++ F) := fun hc => by
      have h1 : w3.heap.size ≤ G := hG
      rcases List.mem_append.1 hc with h | h
      · have := A3.out.lt G h; omega
      · have := D3.out.lt G h; omega
    have K5 : Hid (KW w5) := K3.out.below hb5 K3.out.lt
    have BE5 : Hid (Below w.heap.size w w5) := BE3.out.trans (hb5.mono BE3.out.size)
    clear hG hblk hb5 A3 D3 S3 V3 K3 C3 BE3
    generalize hact : Act.put _ (some 9) _ = act
    simp only [Act.put, List.setIfInBounds_toArray, List.set_cons_succ, List.set_cons_zero] at hact
    subst hact
    go_upto_region 8 with (fail)
    refine lin_begin (opsOf Tryd.f67 8) (by kernel_rfl) ?_
    refine lin_now 0 (.bool true) (some 31) (by kernel_rfl) (by kernel_rfl) (by kernel_rfl) ?_
    refine lin_now 1 (.bool false) (some 32) (by kernel_rfl) (by kernel_rfl) (by kernel_rfl) ?_
    refine lin_now 2 (.bool false) (some 33) (by kernel_rfl) (by kernel_rfl) (by kernel_rfl) ?_
    refine lin_now 3 (.int .i64 (T : Int)) (some 34) (by kernel_rfl) (by kernel_rfl) (by kernel_rfl) ?_
    refine lin_now 4 (.pointer (some ⟨ab, 0, none⟩)) (some 35) (by kernel_rfl) (by kernel_rfl) (by kernel_rfl) ?_
    refine lin_call 5 62 #[.pointer (some ⟨ab, 0, none⟩)] (some 36) _ (by kernel_rfl) (by kernel_rfl) (by kernel_rfl) (arfree_walk A5.out (by omega) (by omega)) ?_
    rintro e w6 ⟨rfl, nd, rfl⟩
    refine ⟨_, rfl, ?_⟩
    refine lin_now 6 (.bool (decide (((half - 1 : Nat) : Int) < (T : Int)))) (some 37) (by kernel_rfl) (by kernel_rfl) (by kernel_rfl) ?_
    refine lin_now 7 (.bool (decide (((half - 1 : Nat) : Int) < (T : Int)))) (some 38) (by kernel_rfl) (by kernel_rfl) (by kernel_rfl) ?_
    refine lin_done 8 (by kernel_rfl) ?_
    have BD := below_drewN w5 nd
    have A6 := Lib.hid (A5.out.below BD)
    have D6 := Lib.hid (D5.out.below BD)
    have S6 : Hid (Step F w (A ++ F) (w5.drewN nd)) := S5.out.trans (Step.of_below BD (Nat.le_refl _))
    have V6 : Hid (PartsOff (A ++ F) (w5.drewN nd) (.slice a m cap) zss) := V5.out.step (Step.of_below BD (Nat.le_refl _))
    have K6 : Hid (KW (w5.drewN nd)) := K5.out.below BD K5.out.lt
    have G6 : Hid (Blk (w5.drewN nd) G 91 (ints .u8 (headL gen T))) := GX.out.below BD GX.out.lt
    have BE6 : Hid (Below w.heap.size w (w5.drewN nd)) := BE5.out.trans (BD.mono BE5.out.size)
    have E6 : Hid (∀ k ∈ E, k < (w5.drewN nd).heap.size) := fun k hk => Nat.lt_of_lt_of_le (hE k hk) BE6.out.size
    generalize w5.drewN nd = W6 at *
    clear BD A5 D5 S5 V5 K5 GX BE5
    generalize hact : Act.put _ (some 38) _ = act
    simp only [Act.put, List.setIfInBounds_toArray, List.set_cons_succ, List.set_cons_zero] at hact
    subst hact
    by_cases hfull : half - 1 < T
    · have qf : decide (((half - 1 : Nat) : Int) < (T : Int)) = true := by rw [decide_eq_true_iff]; omega
      rw [qf]
      go_wp2
      go_ret2
      exact .inl ⟨.inr hfull, rfl, BE6.out⟩
    · have qf : decide (((half - 1 : Nat) : Int) < (T : Int)) = false := by rw [decide_eq_false_iff_not]; omega
      rw [qf]
      have TH : T ≤ half - 1 := by omega
      have T0 : Hid (Ar W6 A (E ++ F) ab d f half gen (1 + cntK zss 0) false (zss.take 0)) := A6.out
      have D0 : Hid (Dk W6 F d sz (putsK seen (f + 1) (rowsK gen 1 zss 0) (cntK zss 0)) dur (pend ++ wrsAt (f + 1) (rowsK gen 1 zss 0) (cntK zss 0)) (leftK left (cntK zss 0))) := by
        unfold Hid
        rw [cntK, wrsAt, List.append_nil, putsK, show leftK left 0 = left by unfold leftK; split <;> simp]
        exact D6.out
      have N0 : Hid (doneN left (cntK zss 0) = cntK zss 0) := by unfold Hid doneN; rw [cntK]; split <;> omega
      clear A6 D6
      go_wp2
      go_loopw [41, 11, 12] (fun iv _ _ wr => ∃ (i : Nat) (A1 F1 : List Nat), i ≤ m ∧ iv = .int .i64 (i : Int) ∧ Ar wr A1 (E ++ F1) ab d f half gen (1 + cntK zss i) false (zss.take i) ∧ Dk wr F1 d sz (putsK seen (f + 1) (rowsK gen 1 zss i) (cntK zss i)) dur (pend ++ wrsAt (f + 1) (rowsK gen 1 zss i) (cntK zss i)) (leftK left (cntK zss i)) ∧ Step (A ++ F) W6 (A1 ++ F1) wr ∧ Hid (doneN left (cntK zss i) = cntK zss i)) (fun iv _ _ _ => m - (intOf iv).toNat)
      case atStart => exact ⟨0, A, F, Nat.zero_le _, rfl, T0.out, D0.out, Step.refl _ _, N0⟩
      case round =>
        obtain ⟨i, A1, F1, hi, rfl, har, hdk, hst, hdn⟩ := hrel
        have AR := Lib.hid har
        have DK := Lib.hid hdk
        have ST := Lib.hid hst
        have VR := Lib.hid (V6.out.step hst)
        have KR : Hid (KW wr) := K6.out.step hst KF3.out
        have GR : Hid (Blk wr G 91 (ints .u8 (headL gen T))) := hst.blk G6.out GO.out
        have GOR : Hid (G ∉ A1 ++ F1) := hst.off G6.out.lt GO.out
        obtain ⟨c, hc⟩ : ∃ c, Hid (cntK zss i = c) := ⟨_, rfl⟩
        rw [hc.out] at AR DK hdn
        have cT : c ≤ T := by rw [← hc.out, ← hT.out]; exact cntK_mono zss hi
        clear har hdk hst T0 D0 N0
        by_cases hlt : i < m
        · have r1 : (i : Int) < (m : Int) := by omega
          obtain ⟨qb, qo, pv, rfl, hcell, hpb, hpn, hqb⟩ := VR.out.part hm.out hlt
          have HC := Lib.hid hcell
          obtain ⟨rec, hrc⟩ : ∃ rc, Hid (rowAt zss i = rc) := ⟨_, rfl⟩
          rw [hrc.out] at hpb
          have PB := Lib.hid hpb
          have PN := Lib.hid hpn
          obtain ⟨pa, pc, e8, -⟩ := id PB.out
          obtain ⟨rn, hrn⟩ : ∃ rn, Hid (rec.length = rn) := ⟨_, rfl⟩
          rw [hrn.out] at e8
          subst e8
          have hr2 : rec.length ≤ 2000 := by rw [← hrc.out]; exact HSH.out _ (List.mem_of_getElem? (rowAt_get (by rw [hm.out]; omega)))
          obtain ⟨kn, hkn⟩ : ∃ kn, Hid (needN rec.length = kn) := ⟨_, rfl⟩
          have cn : c + kn ≤ T := by
            have h := cntK_mono zss (show i + 1 ≤ m by omega)
            rw [cntK, hc.out, hrc.out, hkn.out, hT.out] at h
            exact h
          have hpl : (pend ++ wrsAt (f + 1) (rowsK gen 1 zss i) c).length ≤ 900000 := by rw [List.length_append, wrsAt_length]; omega
          have hlk : leftK left c ≤ 9223372036854775807 := by unfold leftK; split <;> omega
          have RL : (rowsK gen 1 zss i).length = 64 * c := by rw [rowsK_length, hc.out]
          have EP : ∀ j, putsK (putsK seen (f + 1) (rowsK gen 1 zss i) c) (f + (1 + c)) (packF gen (1 + c) rec) j = putsK seen (f + 1) (rowsK gen 1 zss (i + 1)) (c + j) := fun j => by
            rw [rowsK, hc.out, hrc.out, ← putsK_add seen (f + 1) _ _ RL j, show f + 1 + c = f + (1 + c) by omega]
          have EW : ∀ j, pend ++ wrsAt (f + 1) (rowsK gen 1 zss i) c ++ wrsAt (f + (1 + c)) (packF gen (1 + c) rec) j = pend ++ wrsAt (f + 1) (rowsK gen 1 zss (i + 1)) (c + j) := fun j => by
            rw [rowsK, hc.out, hrc.out, ← wrsAt_add (f + 1) _ _ RL j, show f + 1 + c = f + (1 + c) by omega, List.append_assoc]
          have HEP := Lib.hid EP
          have HEW := Lib.hid EW
          clear hcell hpb hpn hqb VR RL EP EW
          go_upto_region 12 with (fail)
          refine lin_begin (opsOf Tryd.f67 12) (by kernel_rfl) ?_
          refine lin_now 0 (.pointer (some ⟨qb, qo + i, none⟩)) (some 43) (by kernel_rfl) (by kernel_rfl) (exec_indexAt 75 (.tmp 39) (.tmp 41) (by kernel_rfl) _ _ _ (by kernel_rfl) (by kernel_rfl) (run_at_part qb qo m cap i hlt _)) ?_
          refine lin_now 1 (.slice pa rn pc) (some 44) (by kernel_rfl) (by kernel_rfl) (exec_load_cell 22 (.tmp 43) (by kernel_rfl) qb (qo + i) (by kernel_rfl) _ HC.out _ Tryd.underlying22 rfl) ?_
          refine lin_now 2 (.slice pa rn pc) (some 11) (by kernel_rfl) (by kernel_rfl) (by kernel_rfl) ?_
          refine lin_done 3 (by kernel_rfl) ?_
          generalize hact : Act.put _ (some 11) _ = act
          simp only [Act.put, List.setIfInBounds_toArray, List.set_cons_succ, List.set_cons_zero] at hact
          subst hact
          go_upto_region 13 with (fail)
          refine lin_begin (opsOf Tryd.f67 13) (by kernel_rfl) ?_
          refine lin_now 0 (.pointer (some ⟨ab, 0, none⟩)) (some 45) (by kernel_rfl) (by kernel_rfl) (by kernel_rfl) ?_
          refine lin_now 1 (.slice pa rn pc) (some 46) (by kernel_rfl) (by kernel_rfl) (by kernel_rfl) ?_
          by_cases hdone : doneN (leftK left c) (needN rec.length) = needN rec.length
          · have HDN := Lib.hid hdone
            refine lin_call 2 38 #[.pointer (some ⟨ab, 0, none⟩), .slice pa rn pc] (some 47) _ (by kernel_rfl) (by kernel_rfl) (by kernel_rfl) (add_ok E AR.out (fun k hk => Nat.lt_of_lt_of_le (E6.out k hk) ST.out.size) _ rec PB.out PN.out KR.out hr2 hg1 hg2 (by omega) (by omega) (by rw [hkn.out]; omega) sz _ dur _ _ DK.out hfh hlk hpl hdone (by rw [List.length_take]; omega)) ?_
            rintro e w8 ⟨rfl, A8, F8, ha8, hd8, hs8⟩
            refine ⟨_, rfl, ?_⟩
            refine lin_now 3 (.int .i64 0) (some 12) (by kernel_rfl) (by kernel_rfl) (by kernel_rfl) ?_
            refine lin_done 4 (by kernel_rfl) ?_
            rw [hkn.out] at hd8 ha8
            have SN : cntK zss (i + 1) = c + kn := by rw [cntK, hc.out, hrc.out, hkn.out]
            have A9 : Hid (Ar w8 A8 (E ++ F8) ab d f half gen (1 + cntK zss (i + 1)) false (zss.take (i + 1))) := by
              unfold Hid
              rw [SN, ← take_snoc (by rw [hm.out]; exact hlt), hrc.out, ← Nat.add_assoc]
              exact ha8
            have D9 : Hid (Dk w8 F8 d sz (putsK seen (f + 1) (rowsK gen 1 zss (i + 1)) (cntK zss (i + 1))) dur (pend ++ wrsAt (f + 1) (rowsK gen 1 zss (i + 1)) (cntK zss (i + 1))) (leftK left (cntK zss (i + 1)))) := by
              unfold Hid
              rw [SN, ← HEP.out kn, ← HEW.out kn, ← leftK_add hdn.out]
              exact hd8
            have S9 := Lib.hid (ST.out.trans hs8)
            have N9 : Hid (doneN left (cntK zss (i + 1)) = cntK zss (i + 1)) := by
              have h := HDN.out
              rw [hkn.out] at h
              unfold Hid
              rw [SN, doneN_next hdn.out, h]
            clear ha8 hd8 hs8 SN AR DK ST KR GR PB PN HC HEP HEW hdone
            generalize hact : Act.put _ (some 12) _ = act
            simp only [Act.put, List.setIfInBounds_toArray, List.set_cons_succ, List.set_cons_zero] at hact
            subst hact
            go_wp2
            exact ⟨⟨i + 1, A8, F8, by omega, by go_num, A9.out, D9.out, S9.out, N9⟩, by simp [intOf]; omega⟩
          · have hdl : doneN (leftK left c) (needN rec.length) < needN rec.length := Nat.lt_of_le_of_ne (doneN_le _ _) hdone
            refine lin_call 2 38 #[.pointer (some ⟨ab, 0, none⟩), .slice pa rn pc] (some 47) _ (by kernel_rfl) (by kernel_rfl) (by kernel_rfl) (add_stop E AR.out _ rec PB.out PN.out KR.out hr2 hg1 hg2 (by omega) (by omega) (by rw [hkn.out]; omega) sz _ dur _ _ DK.out hfh hlk hpl hdl) ?_
            rintro e w8 ⟨rfl, F8, ha8, hd8, hs8⟩
            refine ⟨_, rfl, ?_⟩
            refine lin_now 3 (.int .i64 15) (some 12) (by kernel_rfl) (by kernel_rfl) (by kernel_rfl) ?_
            refine lin_done 4 (by kernel_rfl) ?_
            rw [hkn.out] at hd8 hdl
            have SN : cntK zss (i + 1) = c + kn := by rw [cntK, hc.out, hrc.out, hkn.out]
            have e1 : doneN left (c + kn) = c + doneN (leftK left c) kn := doneN_next hdn.out
            have e2 : doneN left T = c + doneN (leftK left c) kn := (doneN_stop (by rw [e1]; omega) cn).trans e1
            obtain ⟨rest, hrest⟩ := rowsK_more gen 1 zss (i + 1) m (by omega)
            have RL2 : (rowsK gen 1 zss (i + 1)).length = 64 * (c + kn) := by rw [rowsK_length, SN]
            have D9 : Hid (Dk w8 F8 d sz (putsK seen (f + 1) (rowsK gen 1 zss m) (doneN left T)) dur (pend ++ wrsAt (f + 1) (rowsK gen 1 zss m) (doneN left T)) (leftK left (doneN left T))) := by
              unfold Hid
              rw [e2, hrest, putsK_pre _ _ _ _ RL2 _ (by omega), wrsAt_pre _ _ _ RL2 _ (by omega), ← HEP.out, ← HEW.out, ← leftK_add hdn.out]
              exact hd8
            have S9 : Hid (Step F w F8 w8) := (S6.out.trans (ST.out.trans hs8)).sub (fun k hk => List.mem_append_right _ hk)
            have N9 : Hid (doneN left T < T) := by unfold Hid; rw [e2]; omega
            clear ha8 hd8 hs8 SN AR DK ST KR GR PB PN HC HEP HEW hdone hdl e1 e2 hrest RL2
            generalize hact : Act.put _ (some 12) _ = act
            simp only [Act.put, List.setIfInBounds_toArray, List.set_cons_succ, List.set_cons_zero] at hact
            subst hact
            go_wp2
            go_ret2
            exact .inr ⟨hg2, TH, f, FR.out, .inl ⟨N9.out, rfl, F8, D9.out, S9.out⟩⟩
        · have r1 : ¬ (i : Int) < (m : Int) := by omega
          obtain rfl : i = m := by omega
          obtain rfl : c = T := hc.out.symm.trans hT.out
          rw [List.take_of_length_le (by rw [hm.out]; omega)] at AR
          have hpl : (pend ++ wrsAt (f + 1) (rowsK gen 1 zss i) c).length ≤ 900000 := by rw [List.length_append, wrsAt_length]; omega
          clear VR
          obtain ⟨P, hP⟩ : ∃ P, Hid (pend ++ wrsAt (f + 1) (rowsK gen 1 zss i) c = P) := ⟨_, rfl⟩
          obtain ⟨lf, hlf⟩ : ∃ lf, Hid (leftK left c = lf) := ⟨_, rfl⟩
          obtain ⟨sn, hsn⟩ : ∃ sn, Hid (putsK seen (f + 1) (rowsK gen 1 zss i) c = sn) := ⟨_, rfl⟩
          rw [hP.out, hlf.out, hsn.out] at DK
          rw [hP.out] at hpl
          have hl2 : lf ≤ 9223372036854775807 := by rw [← hlf.out]; unfold leftK; split <;> omega
          go_wp2_with fail
          refine (flush_walk d sz F1 _ dur P lf _ DK.out (by omega)).mono ?_
          rintro e w7 ⟨rfl, F7, hd7, hs7⟩
          have D7 := Lib.hid hd7
          have A7 := Lib.hid (AR.out.disk (hs7.left (A := E)))
          have S7 : Hid (Step F w (A1 ++ F7) w7) := (S6.out.trans ST.out).trans hs7.left
          have G7 : Hid (Blk w7 G 91 (ints .u8 (headL gen c))) := hs7.blk GR.out (fun h => GOR.out (List.mem_append_right _ h))
          have GO7 : Hid (G ∉ F7) := hs7.off GR.out.lt (fun h => GOR.out (List.mem_append_right _ h))
          clear hd7 hs7 AR DK ST KR GR
          go_upto_region 18 with (fail)
          refine lin_begin (opsOf Tryd.f67 18) (by kernel_rfl) ?_
          refine lin_now 0 (.pointer (some ⟨ab, 0, none⟩)) (some 54) (by kernel_rfl) (by kernel_rfl) (by kernel_rfl) ?_
          refine lin_now 1 (.slice (some ⟨G, 0, none⟩) 1 1) (some 55) (by kernel_rfl) (by kernel_rfl) (by kernel_rfl) ?_
          refine lin_call 2 69 #[.pointer (some ⟨ab, 0, none⟩), .int .i64 ((0 : Nat) : Int), .slice (some ⟨G, 0, none⟩) 1 1] (some 56) _ (by kernel_rfl) (by kernel_rfl) (by kernel_rfl) (arwrite_walk E A7.out sz sn _ [] lf D7.out 0 G 1 1 (headL gen c) G7.out GO7.out (by rw [headL_length]) (by omega) SZ hl2 (by simp)) ?_
          rintro e w8 ⟨rfl, F8, hd8, hs8⟩
          refine ⟨_, rfl, ?_⟩
          by_cases hl0 : lf = 0
          · subst hl0
            have e0 : doneN 0 1 = 0 := rfl
            rw [e0, putsK, wrsAt, List.append_nil] at hd8
            rw [e0, show decide ((0 : Nat) = 1) = false from rfl]
            refine lin_now 3 (.bool true) (some 57) (by kernel_rfl) (by kernel_rfl) (by kernel_rfl) ?_
            refine lin_done 4 (by kernel_rfl) ?_
            have D8 := Lib.hid hd8
            have S8 : Hid (Step F w F8 w8) := (S7.out.trans hs8.left).sub (fun k hk => List.mem_append_right _ hk)
            clear hd8 hs8 A7 D7 S7 G7
            generalize hact : Act.put _ (some 57) _ = act
            simp only [Act.put, List.setIfInBounds_toArray, List.set_cons_succ, List.set_cons_zero] at hact
            subst hact
            go_wp2
            go_ret2
            refine .inr ⟨hg2, TH, f, FR.out, .inr (.inl ⟨hdn.out, hlf.out, rfl, F8, ?_, S8.out⟩)⟩
            rw [hP.out, hsn.out]
            exact D8.out
          · have e1 : doneN lf 1 = 1 := by unfold doneN; split <;> omega
            rw [e1] at hd8
            simp only [putsK, wrsAt, List.nil_append, Nat.add_zero, getB_one (headL_length gen c)] at hd8
            have e2 : leftK lf 1 = leftK left (c + 1) := by rw [← hlf.out]; exact leftK_add hdn.out
            rw [e2] at hd8
            rw [e1, decide_eq_true rfl]
            refine lin_now 3 (.bool false) (some 57) (by kernel_rfl) (by kernel_rfl) (by kernel_rfl) ?_
            refine lin_done 4 (by kernel_rfl) ?_
            have D8 := Lib.hid hd8
            have A8 := Lib.hid (A7.out.disk (hs8.left (A := E)))
            have S8 : Hid (Step F w (A1 ++ F8) w8) := S7.out.trans hs8.left
            clear hd8 hs8 A7 D7 S7 G7 e1 e2
            generalize hact : Act.put _ (some 57) _ = act
            simp only [Act.put, List.setIfInBounds_toArray, List.set_cons_succ, List.set_cons_zero] at hact
            subst hact
            go_wp2_with fail
            refine (flush_walk d sz F8 _ _ _ _ _ D8.out (by simp)).mono ?_
            rintro e w9 ⟨rfl, F9, hd9, hs9⟩
            have D9 := Lib.hid hd9
            have A9 := Lib.hid (A8.out.disk (hs9.left (A := E)))
            have S9 : Hid (Step F w (A1 ++ F9) w9) := S8.out.trans hs9.left
            clear hd9 hs9 A8 D8 S8
            go_wp2
            go_ret2
            exact .inr ⟨hg2, TH, f, FR.out, .inr (.inr ⟨hdn.out, by rw [hlf.out]; exact hl0, ab, rfl, A1, F9, A9.out, by rw [hP.out, hsn.out]; exact D9.out, S9.out⟩)⟩
end Go.Proofs.YtngpmilojfbpmaaDoor
