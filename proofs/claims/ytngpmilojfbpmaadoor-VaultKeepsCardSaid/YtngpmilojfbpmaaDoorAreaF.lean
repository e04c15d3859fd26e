/- Package area: stored. -/
import Derived.Test.YtngpmilojfbpmaaDoorAreaE
namespace Go.Proofs.YtngpmilojfbpmaaDoor
open Go Go.RowKit
set_option maxRecDepth 100000

/-- The number behind k records, read one behind the other. -/
def scanN (L : List Int) : Nat → Nat
  | 0 => 1
  | k + 1 => scanN L k + needN (sizeP (L.drop (64 * scanN L k)))
def scanR (L : List Int) : Nat → List (List Int)
  | 0 => []
  | k + 1 => scanR L k ++ [recP (L.drop (64 * scanN L k))]
/-- Did one of them end where the head says? -/
def scanV (L : List Int) (used : Int) : Nat → Bool
  | 0 => decide (used = 0)
  | k + 1 => scanV L used k || decide ((scanN L (k + 1) : Int) = 1 + used)
def scanGo (L : List Int) (gen half k : Nat) : Prop := unpOk (gen : Int) ((scanN L k : Nat) : Int) (L.drop (64 * scanN L k)) (half - scanN L k)
structure Stops (L : List Int) (gen half K : Nat) : Prop where
  go : ∀ j, j < K → scanGo L gen half j
  no : ¬ scanGo L gen half K
theorem scanN_bound {L : List Int} {gen half : Nat} (h1 : 1 ≤ half) : ∀ k, (∀ j, j < k → scanGo L gen half j) → k + 1 ≤ scanN L k ∧ scanN L k ≤ half
  | 0, _ => ⟨Nat.le_refl _, h1⟩
  | k + 1, h => by
    obtain ⟨h2, h3⟩ := scanN_bound h1 k (fun j hj => h j (by omega))
    have h4 := (h k (by omega)).2.2.1
    have h5 := needN_pos (sizeP (L.drop (64 * scanN L k)))
    rw [scanN]
    omega
theorem scanR_length (L : List Int) : ∀ k, (scanR L k).length = k
  | 0 => rfl
  | k + 1 => by rw [scanR, List.length_append, scanR_length L k]; rfl
theorem Stops.unique {L : List Int} {gen half K K' : Nat} (h : Stops L gen half K) (h' : Stops L gen half K') : K = K' := by
  rcases Nat.lt_trichotomy K K' with h1 | h1 | h1
  · exact absurd (h'.go K h1) h.no
  · exact h1
  · exact absurd (h.go K' h1) h'.no
/-- Bytes that lie in blocks from B on. -/
theorem bytes_from {B : Nat} {w : World} {v : Value} {zs : List Int} (h : BytesIn w v zs) (hf : ∀ g, v.ownBlock = some g → B ≤ g) (G : List Nat) (hG : ∀ k ∈ G, k < B ∨ w.heap.size ≤ k) : BytesOff G w v zs := by
  obtain ⟨a, cap, rfl, h2, h3⟩ := h
  refine ⟨a, cap, rfl, h2, fun hp => ?_⟩
  obtain ⟨pb, po, rfl, h5, h6⟩ := h3 hp
  refine ⟨pb, po, rfl, fun hc => ?_, h5, h6⟩
  have := hf pb rfl
  rcases hG pb hc with h | h <;> omega
def headB (L : List Int) : List Int := getB L 0
def headG (L : List Int) : Nat := (genP (headB L)).toNat
def headU (L : List Int) : Int := numB (recP (headB L))
/-- An area that is valid. -/
def validP (L : List Int) (half : Nat) : Prop := headOk (headB L) ∧ ∃ K, Stops L (headG L) half K ∧ scanV L (headU L) K = true
def StoredPost (F : List Nat) (d first half : Nat) (L : List Int) (w : World) (e : Ending) (w' : World) : Prop :=
  (headOk (headB L) ∧ ∃ K ab A, Stops L (headG L) half K ∧ scanV L (headU L) K = true ∧ e = .returned (.pointer (some ⟨ab, 0, none⟩)) ∧ Ar w' A F ab d first half (headG L) (scanN L K) true (scanR L K) ∧ Step [] w A w') ∨
  (¬ validP L half ∧ e = .returned (.pointer none) ∧ Below w.heap.size w w')
theorem run_build_area (d first half gen next : Nat) (stuck : Bool) (w : World) : (Instr.build 113 #[(0, .pointer (some ⟨d, 0, none⟩)), (1, .int .i64 (first : Int)), (2, .int .i64 (half : Int)), (3, .int .i64 (gen : Int)), (4, .int .i64 (next : Int)), (6, .bool stuck)]).run Tryd.prog w = .ok (.agg (acells d first half gen next (.slice none 0 0) stuck).toArray) w := by kernel_rfl
theorem run_blks_tail (g o n c l : Nat) (h1 : l ≤ n) (hc : l < c) (w : World) : (Instr.sliceAt 67 (.slice (some ⟨g, o, none⟩) n c) (some (.int .i64 (l : Int))) none none).run Tryd.prog w = .ok (.slice (some ⟨g, o + 64 * l, none⟩) (n - l) (c - l)) w := by
  have hz : (sizeOf (Tryd.prog.elem 67)).run Tryd.prog w = .ok 64 w := by kernel_rfl
  rw [run_sliceAt_slice w 67 _ _ _ _ elemBlocks, run_slice_l w 67 _ n c elemBlocks .i64 (l : Int) (by omega) (by omega), hz]
  simp only [Result.andThen_ok, sliced, Int.toNat_natCast, Option.map_some, Addr.add_mid, Nat.mul_comm l 64]
  rw [if_neg (by omega)]
theorem run_blks_none (g o n c : Nat) (w : World) : ∃ v, (Instr.sliceAt 67 (.slice (some ⟨g, o, none⟩) n c) (some (.int .i64 (n : Int))) none none).run Tryd.prog w = .ok v w ∧ BlksIn w v 0 [] := by
  have hz : (sizeOf (Tryd.prog.elem 67)).run Tryd.prog w = .ok 64 w := by kernel_rfl
  rw [run_sliceAt_slice w 67 _ _ _ _ elemBlocks, run_slice_l w 67 _ n c elemBlocks .i64 (n : Int) (by omega) (by omega), hz]
  simp only [Result.andThen_ok, sliced, Int.toNat_natCast, Option.map_some, Addr.add_mid, Nat.sub_self]
  exact ⟨_, rfl, _, c - n, rfl, by omega, rfl, fun h => absurd h (by omega)⟩
theorem blks_tail {w : World} {pb po n c j : Nat} {l : List Int} (hr : w.rangeAt pb po (ints .u8 l)) (hb : pb < w.heap.size) (hl : l.length = 64 * n) (hj : j ≤ n) (hc : n ≤ c) : BlksIn w (.slice (some ⟨pb, po + 64 * j, none⟩) (n - j) (c - j)) (n - j) (l.drop (64 * j)) := by
  refine ⟨_, c - j, rfl, by omega, by rw [List.length_drop]; omega, fun _ => ⟨pb, po + 64 * j, rfl, hb, fun i v hv => ?_⟩⟩
  rw [← ints_drop, List.getElem?_drop] at hv
  have := hr (64 * j + i) v hv
  rw [← Nat.add_assoc] at this
  exact this
/-- What is read from a number on. -/
theorem run_rest (G n l : Nat) (L : List Int) (w : World) (hb : Blk w G 91 (ints .u8 L)) (hL : L.length = 64 * n) (hl : l ≤ n) : ∃ v, (∀ w', (Instr.sliceAt 67 (.slice (some ⟨G, 0, none⟩) n n) (some (.int .i64 (l : Int))) none none).run Tryd.prog w' = .ok v w') ∧ BlksIn w v (n - l) (L.drop (64 * l)) := by
  by_cases h : l < n
  · refine ⟨_, fun w' => run_blks_tail G 0 n n l hl h w', blks_tail hb.whole hb.lt hL hl (Nat.le_refl _)⟩
  · obtain rfl : l = n := by omega
    obtain ⟨v, h1, h2⟩ := run_blks_none G 0 l l w
    refine ⟨v, fun w' => ?_, ?_⟩
    · obtain ⟨v', h3, _⟩ := run_blks_none G 0 l l w'
      have hz : (sizeOf (Tryd.prog.elem 67)).run Tryd.prog w' = .ok 64 w' := by kernel_rfl
      have hz2 : (sizeOf (Tryd.prog.elem 67)).run Tryd.prog w = .ok 64 w := by kernel_rfl
      rw [run_sliceAt_slice _ 67 _ _ _ _ elemBlocks, run_slice_l _ 67 _ l l elemBlocks .i64 (l : Int) (by omega) (by omega), hz2] at h1
      rw [run_sliceAt_slice _ 67 _ _ _ _ elemBlocks, run_slice_l _ 67 _ l l elemBlocks .i64 (l : Int) (by omega) (by omega), hz]
      simp only [Result.andThen_ok] at h1 ⊢
      have := (Result.ok.inj h1).1
      rw [this]
    · rw [Nat.sub_self, List.drop_eq_nil_of_le (by omega)]
      exact h2
theorem sub_bytes {L : List Int} (h : isBytes L) (n : Nat) : isBytes (getB L n) := bytes_take (bytes_drop h _) _
set_option maxHeartbeats 8000000 in
theorem stored_walk (d sz first : Nat) (F : List Nat) (seen dur : List Int) (pend : List Wr) (left : Int) (w : World) (h : Dk w F d sz seen dur pend left) (hby : isBytes seen) (h4 : 4 ≤ sz) (hf : first + sz / 2 ≤ sz) (hK : KW w) :
    Calls Tryd.prog 81 #[.pointer (some ⟨d, 0, none⟩), .int .i64 (first : Int)] w (StoredPost F d first (sz / 2) (secsP seen first (sz / 2)) w) := by
  have LS : Hid (seen.length = 64 * sz) := by obtain ⟨sB, dB, sc, dc, rs, rd, pv, -, hx⟩ := id h; exact hx.ls
  have SZ : sz ≤ 4096 := by obtain ⟨sB, dB, sc, dc, rs, rd, pv, -, hx⟩ := id h; exact hx.big
  have HD := Lib.hid h
  have HK := Lib.hid hK
  have HBY := Lib.hid hby
  obtain ⟨half, hhf⟩ : ∃ half, Hid (sz / 2 = half) := ⟨_, rfl⟩
  rw [hhf.out] at hf ⊢
  have h2 : 2 ≤ half := by have := hhf.out; omega
  have hh : half ≤ 2048 := by have := hhf.out; omega
  obtain ⟨B, hB⟩ : ∃ B, Hid (w.heap.size = B) := ⟨_, rfl⟩
  have KB : Hid (4 < B) := by unfold Hid; rw [← hB.out]; exact hK.lt
  have FB : Hid (∀ k ∈ F, k < B) := by unfold Hid; rw [← hB.out]; exact h.lt
  obtain ⟨L, hL⟩ : ∃ L, Hid (secsP seen first half = L) := ⟨_, rfl⟩
  have LL : Hid (L.length = 64 * half) := by unfold Hid; rw [← hL.out]; exact secsP_length LS.out hf
  have LB : Hid (isBytes L) := by unfold Hid; rw [← hL.out]; exact bytes_take (bytes_drop hby _) _
  rw [hL.out]
  clear h hK hby
  obtain ⟨b, hb⟩ : ∃ b, Hid (headB L = b) := ⟨_, rfl⟩
  have BL : Hid (b.length = 64) := by unfold Hid; rw [← hb.out]; exact getB_length LL.out (by omega)
  have BB : Hid (isBytes b) := by unfold Hid; rw [← hb.out]; exact sub_bytes LB.out 0
  have IB : Hid ((Tryd.prog.info? 91).map (·.size) = some (ints .u8 b).length) := infoBlk b BL.out
  go_enter Tryd.func81, Tryd.ntmps81
  go_upto_region 1 with (fail)
  refine lin_begin (opsOf Tryd.f81 1) (by kernel_rfl) ?_
  refine lin_now 0 (.pointer (some ⟨d, 0, none⟩)) (some 14) (by kernel_rfl) (by kernel_rfl) (by kernel_rfl) ?_
  refine lin_now 1 (.int .i64 (first : Int)) (some 15) (by kernel_rfl) (by kernel_rfl) (by kernel_rfl) ?_
  refine lin_now 2 (.pointer (some ⟨d, 0, none⟩)) (some 16) (by kernel_rfl) (by kernel_rfl) (by kernel_rfl) ?_
  refine lin_call 3 64 #[.pointer (some ⟨d, 0, none⟩)] (some 17) _ (by kernel_rfl) (by kernel_rfl) (by kernel_rfl) (size_walk d sz F seen dur pend left _ HD.out) ?_
  rintro e w1 ⟨rfl, rfl⟩
  refine ⟨_, rfl, ?_⟩
  refine lin_now 4 (.int .i64 ((sz / 2 : Nat) : Int)) (some 18) (by kernel_rfl) (by kernel_rfl) (exec_half 3 3 (.tmp 17) (.const (.int .i64 2)) (by kernel_rfl) sz (by kernel_rfl) (by kernel_rfl) (by omega)) ?_
  rw [hhf.out]
  refine lin_call 5 96 #[.pointer (some ⟨d, 0, none⟩), .int .i64 (first : Int), .int .i64 (half : Int)] (some 19) _ (by kernel_rfl) (by kernel_rfl) (by kernel_rfl) (sectors_walk d sz first half F seen dur pend left _ HD.out hf) ?_
  rintro e w2 ⟨G, rfl, hG, hblk, hb2⟩
  refine ⟨_, rfl, ?_⟩
  refine lin_now 6 (.slice (some ⟨G, 0, none⟩) half half) (some 5) (by kernel_rfl) (by kernel_rfl) (by kernel_rfl) ?_
  refine lin_done 7 (by kernel_rfl) ?_
  rw [hL.out] at hblk
  rw [hB.out] at hG hb2
  have GB := Lib.hid hG
  have X2 := Lib.hid hblk
  have BE2 := Lib.hid hb2
  have RB : Hid (w2.rangeAt G (0 + 64 * 0) (ints .u8 b)) := by unfold Hid; rw [← hb.out]; exact getB_sub hblk.whole
  have K2 : Hid (KW w2) := HK.out.below hb2 KB.out
  clear hG hblk hb2
  generalize hact : Act.put _ (some 5) _ = act
  simp only [Act.put, List.setIfInBounds_toArray, List.set_cons_succ, List.set_cons_zero] at hact
  subst hact
  go_upto_region 2 with (fail)
  refine lin_begin (opsOf Tryd.f81 2) (by kernel_rfl) ?_
  refine lin_now 0 (.slice (some ⟨G, 0, none⟩) half half) (some 21) (by kernel_rfl) (by kernel_rfl) (by kernel_rfl) ?_
  refine lin_now 1 (.pointer (some ⟨G, 0 + 64 * 0, none⟩)) (some 22) (by kernel_rfl) (by kernel_rfl) (exec_indexAt 67 (.tmp 21) (.const (.int .i64 0)) (by kernel_rfl) _ _ _ (by kernel_rfl) (by kernel_rfl) (run_at_block G 0 half half 0 (by omega) _)) ?_
  refine lin_now 2 (.agg (ints .u8 b).toArray) (some 23) (by kernel_rfl) (by kernel_rfl) (exec_load_mid 91 (.tmp 22) (by kernel_rfl) G (0 + 64 * 0) (by kernel_rfl) (ints .u8 b) _ RB.out Tryd.underlying91 rfl IB.out) ?_
  by_cases hok : ¬ headOk b
  · have HNO := Lib.hid hok
    refine lin_call 3 97 #[.agg (ints .u8 b).toArray] (some 24) _ (by kernel_rfl) (by kernel_rfl) (by kernel_rfl) (unpackhead_no b BL.out BB.out HNO.out _ K2.out) ?_
    rintro e w3 ⟨rfl, hb3⟩
    refine ⟨_, rfl, ?_⟩
    refine lin_now 4 (.tuple #[.int .i64 0, .int .i64 0, .bool false]) (some 20) (by kernel_rfl) (by kernel_rfl) (by kernel_rfl) ?_
    refine lin_now 5 (.int .i64 0) (some 25) (by kernel_rfl) (by kernel_rfl) (by kernel_rfl) ?_
    refine lin_now 6 (.int .i64 0) (some 26) (by kernel_rfl) (by kernel_rfl) (by kernel_rfl) ?_
    refine lin_now 7 (.bool false) (some 27) (by kernel_rfl) (by kernel_rfl) (by kernel_rfl) ?_
    refine lin_now 8 (.int .i64 0) (some 6) (by kernel_rfl) (by kernel_rfl) (by kernel_rfl) ?_
    refine lin_now 9 (.int .i64 0) (some 7) (by kernel_rfl) (by kernel_rfl) (by kernel_rfl) ?_
    refine lin_now 10 (.bool false) (some 8) (by kernel_rfl) (by kernel_rfl) (by kernel_rfl) ?_
    refine lin_done 11 (by kernel_rfl) ?_
    have BE3 : Hid (Below B w w3) := BE2.out.trans (hb3.mono (by have := BE2.out.size; have := hB.out; omega))
    clear hb3
    generalize hact : Act.put _ (some 8) _ = act
    simp only [Act.put, List.setIfInBounds_toArray, List.set_cons_succ, List.set_cons_zero] at hact
    subst hact
    go_wp2
    go_ret
    refine .inr ⟨fun h => HNO.out ?_, rfl, by rw [hB.out]; exact BE3.out⟩
    rw [← hb.out]
    exact h.1
  · obtain ⟨g, hg⟩ : ∃ g : Nat, Hid (genP b = (g : Int)) := ⟨(genP b).toNat, by unfold Hid; have := (gen_range BB.out BL.out).1; omega⟩
    replace hok := Classical.not_not.1 hok
    have HGL : Hid (headG L = g) := by unfold Hid headG; rw [hb.out, hg.out]; rfl
    have g1 : 1 ≤ g := by have := hok.2.1.2.2.2.1.2.1; have := hg.out; omega
    have g2 : g ≤ 4294967295 := by have := hok.2.1.2.2.2.1.2.2.1; have := hg.out; omega
    obtain ⟨used, hus⟩ : ∃ u, Hid (headU L = u) := ⟨_, rfl⟩
    have HUS : Hid (numB (recP b) = used) := by unfold Hid; rw [← hb.out]; exact hus.out
    have hur : 0 ≤ used ∧ used ≤ 4294967295 := by
      have h := numB_range (show isBytes (recP b) from bytes_take (bytes_drop (dataK_bytes BB.out _) _) _)
      rw [HUS.out, hok.2.2] at h
      exact ⟨h.1, by omega⟩
    have HOK := Lib.hid hok
    clear hok
    refine lin_call 3 97 #[.agg (ints .u8 b).toArray] (some 24) _ (by kernel_rfl) (by kernel_rfl) (by kernel_rfl) (unpackhead_ok b BL.out BB.out HOK.out _ K2.out) ?_
    rintro e w3 ⟨rfl, hb3⟩
    refine ⟨_, rfl, ?_⟩
    rw [hg.out, HUS.out]
    refine lin_now 4 (.tuple #[.int .i64 (g : Int), .int .i64 used, .bool true]) (some 20) (by kernel_rfl) (by kernel_rfl) (by kernel_rfl) ?_
    refine lin_now 5 (.int .i64 (g : Int)) (some 25) (by kernel_rfl) (by kernel_rfl) (by kernel_rfl) ?_
    refine lin_now 6 (.int .i64 used) (some 26) (by kernel_rfl) (by kernel_rfl) (by kernel_rfl) ?_
    refine lin_now 7 (.bool true) (some 27) (by kernel_rfl) (by kernel_rfl) (by kernel_rfl) ?_
    refine lin_now 8 (.int .i64 (g : Int)) (some 6) (by kernel_rfl) (by kernel_rfl) (by kernel_rfl) ?_
    refine lin_now 9 (.int .i64 used) (some 7) (by kernel_rfl) (by kernel_rfl) (by kernel_rfl) ?_
    refine lin_now 10 (.bool true) (some 8) (by kernel_rfl) (by kernel_rfl) (by kernel_rfl) ?_
    refine lin_done 11 (by kernel_rfl) ?_
    have BE3 : Hid (Below B w w3) := BE2.out.trans (hb3.mono (by have := BE2.out.size; have := hB.out; omega))
    have X3 : Hid (Blk w3 G 91 (ints .u8 L)) := X2.out.below hb3 X2.out.lt
    obtain ⟨ab, hab⟩ : ∃ ab, Hid (w3.heap.size = ab) := ⟨_, rfl⟩
    have GA : Hid (G < ab) := by unfold Hid; rw [← hab.out]; exact X3.out.lt
    have BA : Hid (B ≤ ab) := by unfold Hid; have := BE3.out.size; have := hB.out; have := hab.out; omega
    clear hb3 X2 BE2 K2 RB
    generalize hact : Act.put _ (some 8) _ = act
    simp only [Act.put, List.setIfInBounds_toArray, List.set_cons_succ, List.set_cons_zero] at hact
    subst hact
    go_upto_region 5 with (fail)
    refine lin_begin (opsOf Tryd.f81 5) (by kernel_rfl) ?_
    refine lin_now 0 (.pointer (some ⟨d, 0, none⟩)) (some 30) (by kernel_rfl) (by kernel_rfl) (by kernel_rfl) ?_
    refine lin_now 1 (.int .i64 (first : Int)) (some 31) (by kernel_rfl) (by kernel_rfl) (by kernel_rfl) ?_
    refine lin_now 2 (.slice (some ⟨G, 0, none⟩) half half) (some 32) (by kernel_rfl) (by kernel_rfl) (by kernel_rfl) ?_
    refine lin_now 3 (.int .i64 (half : Int)) (some 33) (by kernel_rfl) (by kernel_rfl) (by kernel_rfl) ?_
    refine lin_now 4 (.int .i64 (g : Int)) (some 34) (by kernel_rfl) (by kernel_rfl) (by kernel_rfl) ?_
    refine lin_now 5 (.agg (acells d first half g 1 (.slice none 0 0) true).toArray) (some 35) (by kernel_rfl) (by kernel_rfl) (exec_of (Instr.build 113 #[(0, .pointer (some ⟨d, 0, none⟩)), (1, .int .i64 (first : Int)), (2, .int .i64 (half : Int)), (3, .int .i64 (g : Int)), (4, .int .i64 ((1 : Nat) : Int)), (6, .bool true)]) _ (by kernel_rfl) (run_build_area d first half g 1 true _)) ?_
    refine lin_box 6 113 (.tmp 35) (acells d first half g 1 (.slice none 0 0) true) (ab) (some 36) (by kernel_rfl) (by kernel_rfl) (by kernel_rfl) (by kernel_rfl) hab ?_
    intro w4 b4 be4 hs4
    refine lin_now 7 (.pointer (some ⟨ab, 0, none⟩)) (some 9) (by kernel_rfl) (by kernel_rfl) (by kernel_rfl) ?_
    refine lin_done 8 (by kernel_rfl) ?_
    have A4 : Hid (Arx w4 F ab d first half g (scanN L 0) (.slice none 0 0) true (scanR L 0)) := ⟨b4, ⟨[], ⟨rfl, .inl ⟨rfl, rfl⟩⟩, fun i v zs hv => by simp at hv⟩, fun g hg => by simp [Value.ownBlock] at hg, fun k hk hc => by
      obtain rfl : k = ab := by simpa [afoot, Value.ownBlock] using hk
      have := FB.out k hc
      have := BA.out
      omega, fun zs hz => by simp [scanR] at hz⟩
    have X4 : Hid (Blk w4 G 91 (ints .u8 L)) := X3.out.below be4 GA.out
    have BE4 : Hid (Below B w w4) := BE3.out.trans (be4.mono BA.out)
    have AF4 : Hid (G ∉ afoot ab (.slice none 0 0) ∧ ∀ k ∈ afoot ab (.slice none 0 0), B ≤ k) := ⟨fun hc => by
      obtain rfl : G = ab := by simpa [afoot, Value.ownBlock] using hc
      have := GA.out
      omega, fun k hk => by
      obtain rfl : k = ab := by simpa [afoot, Value.ownBlock] using hk
      exact BA.out⟩
    clear b4 be4 hs4 X3 BE3
    generalize hact : Act.put _ (some 9) _ = act
    simp only [Act.put, List.setIfInBounds_toArray, List.set_cons_succ, List.set_cons_zero] at hact
    subst hact
    have uq : (used == 0) = decide (used = 0) := by by_cases h : used = 0 <;> simp [h]
    go_upto_region 6 with (fail)
    refine lin_begin (opsOf Tryd.f81 6) (by kernel_rfl) ?_
    refine lin_now 0 (.int .i64 used) (some 37) (by kernel_rfl) (by kernel_rfl) (by kernel_rfl) ?_
    refine lin_now 1 (.bool (used == 0)) (some 38) (by kernel_rfl) (by kernel_rfl) (by kernel_rfl) ?_
    refine lin_now 2 (.bool (used == 0)) (some 10) (by kernel_rfl) (by kernel_rfl) (by kernel_rfl) ?_
    rw [uq]
    refine lin_done 3 (by kernel_rfl) ?_
    clear uq
    generalize hact : Act.put _ (some 10) _ = act
    simp only [Act.put, List.setIfInBounds_toArray, List.set_cons_succ, List.set_cons_zero] at hact
    subst hact
    obtain ⟨i0, hi0, hz0, hz1, hz2⟩ := info_parts infoBytes3
    have HI := Lib.hid hi0
    have HZ0 := Lib.hid hz0
    have HZ1 := Lib.hid hz1
    have HZ2 := Lib.hid hz2
    clear hi0 hz0 hz1 hz2
    go_wp2
    go_loopw [10, 11, 12, 13] (fun vv _ _ _ wr => ∃ (k : Nat) (v : Bool) (rv : Value), vv = .bool v ∧ Hid (v = scanV L used k) ∧ Hid (∀ j, j < k → scanGo L g half j) ∧ Arx wr F ab d first half g (scanN L k) rv true (scanR L k) ∧ Blk wr G 91 (ints .u8 L) ∧ Hid (G ∉ afoot ab rv ∧ ∀ x ∈ afoot ab rv, B ≤ x) ∧ Below B w wr) (fun _ _ _ _ wr => half - (intOf ((wr.cell? ⟨ab, 4, none⟩).getD (.int .i64 0))).toNat)
    case atStart => exact ⟨0, _, _, rfl, rfl, fun j hj => absurd hj (by omega), A4.out, X4.out, AF4, BE4.out⟩
    case round =>
      obtain ⟨k, v, rv, rfl, hv, hgo, hax, hgb, haf, hbe⟩ := hrel
      have AX := Lib.hid hax
      have GX := Lib.hid hgb
      have BE := Lib.hid hbe
      obtain ⟨nx, hnx⟩ : ∃ nx, Hid (scanN L k = nx) := ⟨_, rfl⟩
      have hnb := scanN_bound (by omega) k hgo.out
      rw [hnx.out] at hnb AX
      have n1 : 1 ≤ nx := by omega
      have n2 : nx ≤ half := hnb.2
      have hms : half - (intOf ((wr.cell? ⟨ab, 4, none⟩).getD (.int .i64 0))).toNat = half - nx := by rw [AX.out.c4]; simp [intOf]
      rw [hms]
      obtain ⟨sv, hsv, hsb⟩ := run_rest G half nx L wr GX.out LL.out n2
      have SV := Lib.hid hsv
      have SB := Lib.hid hsb
      have KR : Hid (KW wr) := HK.out.below hbe KB.out
      have TB : Hid (isBytes (L.drop (64 * nx))) := bytes_drop LB.out _
      have HGO : Hid (scanGo L g half k ↔ unpOk (g : Int) (nx : Int) (L.drop (64 * nx)) (half - nx)) := by unfold Hid scanGo; rw [hnx.out]
      obtain ⟨R, hR⟩ : ∃ R, Hid (L.drop (64 * nx) = R) := ⟨_, rfl⟩
      rw [hR.out] at SB TB HGO
      clear hax hgb hbe hms hnb hsv hsb A4 X4 AF4 BE4
      by_cases hun : unpOk (g : Int) (nx : Int) R (half - nx)
      · have UN := Lib.hid hun
        obtain ⟨kn, hkn⟩ : ∃ kn, Hid (needN (sizeP R) = kn) := ⟨_, rfl⟩
        have k1 : 1 ≤ kn := by have := needN_pos (sizeP R); rw [hkn.out] at this; exact this
        have k2 : kn ≤ half - nx := by have := hun.2.2.1; rw [hkn.out] at this; exact this
        have RL : Hid ((recP R).length ≤ 2000) := by unfold Hid; rw [recP_length (n := half - nx) (by rw [← hR.out, List.length_drop, LL.out]; omega) hun.2.2.1]; exact hun.2.1
        have SR : Hid (scanR L (k + 1) = scanR L k ++ [recP R]) := by unfold Hid; rw [scanR, hnx.out, hR.out]
        have SN : Hid (scanN L (k + 1) = nx + kn) := by unfold Hid; rw [scanN, hnx.out, hR.out, hkn.out]
        clear hun
        go_upto_region 7 with (fail)
        refine region_begin (opsOf Tryd.f81 7) (fun w' => Blk w' ab 113 (acells d first half g nx rv true)) (by kernel_rfl) (by kernel_rfl) 19 (by kernel_rfl) ?_
        intro Q' hQN hN
        have hS : Blk wr.drew ab 113 (acells d first half g nx rv true) := AX.out.hb
        refine reg_now 0 (.slice (some ⟨G, 0, none⟩) half half) (some 40) hQN hS (by kernel_rfl) (by kernel_rfl) (fun w => by kernel_rfl) ?_
        refine reg_now 1 (.pointer (some ⟨ab, 0, none⟩)) (some 41) hQN hS (by kernel_rfl) (by kernel_rfl) (fun w => by kernel_rfl) ?_
        refine reg_now 2 (.pointer (some ⟨ab, 0, none⟩)) (some 42) hQN hS (by kernel_rfl) (by kernel_rfl) (fun w => by kernel_rfl) ?_
        refine reg_now 3 (.pointer (some ⟨ab, 4, none⟩)) (some 43) hQN hS (by kernel_rfl) (by kernel_rfl) (fun w => by kernel_rfl) ?_
        refine reg_nowIf 4 (.int .i64 (nx : Int)) (some 44) hQN hS (by kernel_rfl) (by kernel_rfl) (fun w' hw => exec_load_cell 3 (.tmp 43) (by kernel_rfl) ab 4 (by kernel_rfl) _ (hw.cell rfl) _ Tryd.underlying3 rfl) ?_
        refine reg_now 5 (sv) (some 45) hQN hS (by kernel_rfl) (by kernel_rfl) (fun w' => exec_of (Instr.sliceAt 67 (.slice (some ⟨G, 0, none⟩) half half) (some (.int .i64 (nx : Int))) none none) _ (by kernel_rfl) (SV.out w')) ?_
        refine reg_now 6 (.int .i64 (g : Int)) (some 46) hQN hS (by kernel_rfl) (by kernel_rfl) (fun w => by kernel_rfl) ?_
        refine reg_now 7 (.pointer (some ⟨ab, 0, none⟩)) (some 47) hQN hS (by kernel_rfl) (by kernel_rfl) (fun w => by kernel_rfl) ?_
        refine reg_now 8 (.pointer (some ⟨ab, 0, none⟩)) (some 48) hQN hS (by kernel_rfl) (by kernel_rfl) (fun w => by kernel_rfl) ?_
        refine reg_now 9 (.pointer (some ⟨ab, 4, none⟩)) (some 49) hQN hS (by kernel_rfl) (by kernel_rfl) (fun w => by kernel_rfl) ?_
        refine reg_nowIf 10 (.int .i64 (nx : Int)) (some 50) hQN hS (by kernel_rfl) (by kernel_rfl) (fun w' hw => exec_load_cell 3 (.tmp 49) (by kernel_rfl) ab 4 (by kernel_rfl) _ (hw.cell rfl) _ Tryd.underlying3 rfl) ?_
        refine reg_call 11 98 #[sv, .int .i64 (g : Int), .int .i64 (nx : Int)] (some 51) _ (by kernel_rfl) (by kernel_rfl) (by kernel_rfl) (unpack_okF (g : Int) (nx : Int) sv (half - nx) R _ (SB.out.drewN 1) TB.out (by omega) UN.out KR.out) ?_
        rintro e w5 ⟨cv, rfl, hcv, hcn, hb5⟩
        refine ⟨_, rfl, hS.below hb5 hS.lt, ?_⟩
        rw [hkn.out]
        refine reg_now 12 (.tuple #[cv, .int .i64 (kn : Int), .bool true]) (some 39) hQN (hS.below hb5 hS.lt) (by kernel_rfl) (by kernel_rfl) (fun w => by kernel_rfl) ?_
        refine reg_now 13 (cv) (some 52) hQN (hS.below hb5 hS.lt) (by kernel_rfl) (by kernel_rfl) (fun w => by kernel_rfl) ?_
        refine reg_now 14 (.int .i64 (kn : Int)) (some 53) hQN (hS.below hb5 hS.lt) (by kernel_rfl) (by kernel_rfl) (fun w => by kernel_rfl) ?_
        refine reg_now 15 (.bool true) (some 54) hQN (hS.below hb5 hS.lt) (by kernel_rfl) (by kernel_rfl) (fun w => by kernel_rfl) ?_
        refine reg_now 16 (cv) (some 11) hQN (hS.below hb5 hS.lt) (by kernel_rfl) (by kernel_rfl) (fun w => by kernel_rfl) ?_
        refine reg_now 17 (.int .i64 (kn : Int)) (some 12) hQN (hS.below hb5 hS.lt) (by kernel_rfl) (by kernel_rfl) (fun w => by kernel_rfl) ?_
        refine reg_now 18 (.bool true) (some 13) hQN (hS.below hb5 hS.lt) (by kernel_rfl) (by kernel_rfl) (fun w => by kernel_rfl) ?_
        refine reg_done (by kernel_rfl) (hN _ _ ?_)
        have B5 : Below wr.heap.size wr w5 := (Below.refl _ _).drew.trans hb5
        have V5 := Lib.hid hcv
        have N5 := Lib.hid hcn
        have BB5 := Lib.hid B5
        have X5 := Lib.hid (AX.out.below B5)
        obtain ⟨Q, hQ⟩ : ∃ Q, Hid (w5.heap.size = Q) := ⟨_, rfl⟩
        obtain ⟨ca, cc, ecv, -⟩ := id V5.out
        obtain ⟨cn, hcn2⟩ : ∃ cn, Hid ((recP R).length = cn) := ⟨_, rfl⟩
        rw [hcn2.out] at ecv
        subst ecv
        clear hQN hN hS hcv hcn hb5 B5
        generalize hact : Act.put _ (some 13) _ = act
        simp only [Act.put, List.setIfInBounds_toArray, List.set_cons_succ, List.set_cons_zero] at hact
        subst hact
        obtain ⟨vs, hown, hvb⟩ := AX.out.hr
        have OW := Lib.hid hown
        have VB := Lib.hid hvb
        rw [scanR_length] at OW
        have k3 : k ≤ 5000 := by have := scanN_bound (by omega) k hgo.out; omega
        clear hown hvb
        go_upto_region 9 with (fail)
        refine lin_begin (opsOf Tryd.f81 9) (by kernel_rfl) ?_
        refine lin_now 0 (.pointer (some ⟨ab, 0, none⟩)) (some 57) (by kernel_rfl) (by kernel_rfl) (by kernel_rfl) ?_
        refine lin_now 1 (.pointer (some ⟨ab, 0, none⟩)) (some 58) (by kernel_rfl) (by kernel_rfl) (by kernel_rfl) ?_
        refine lin_now 2 (.pointer (some ⟨ab, 0, none⟩)) (some 59) (by kernel_rfl) (by kernel_rfl) (by kernel_rfl) ?_
        refine lin_now 3 (.pointer (some ⟨ab, 5, none⟩)) (some 60) (by kernel_rfl) (by kernel_rfl) (by kernel_rfl) ?_
        refine lin_now 4 (rv) (some 61) (by kernel_rfl) (by kernel_rfl) (exec_load_cell 75 (.tmp 60) (by kernel_rfl) ab 5 (by kernel_rfl) _ X5.out.c5 _ Tryd.underlying75 rfl) ?_
        refine lin_now 5 (.slice ca cn cc) (some 62) (by kernel_rfl) (by kernel_rfl) (by kernel_rfl) ?_
        refine lin_newrow 6 22 [.slice ca cn cc] Q 1 (some 63) (by kernel_rfl) (by kernel_rfl) hQ (exec_of (Instr.buildSlice 75 1 #[(0, .slice ca cn cc)]) _ (by kernel_rfl) (run_build_row ca cn cc w5)) ?_
        intro w6 b6 be6 hs6
        have be6' : Below w5.heap.size w5 w6 := by rw [hQ.out]; exact be6
        have B6 : Below wr.heap.size wr w6 := BB5.out.trans (be6'.mono BB5.out.size)
        have OW6 : w6.ownsRow 0 22 1 rv k vs := own_step OW.out (Step.of_below (F := []) B6 (Nat.le_refl _)) (fun g _ => by simp)
        have hS6 : Blk w6 ab 113 (acells d first half g nx rv true) := X5.out.hb.below be6' X5.out.hb.lt
        obtain ⟨gg, cap, W7, hr7, ho7, hg7, hat7, hlt7⟩ := run_append_lies (P := Tryd.prog) w6 75 75 0 22 i0 _ 1 24 Tryd.underlying75 HI.out HZ0.out HZ1.out HZ2.out rfl (by decide) rv k vs OW6 ⟨Q, 0, none⟩ 1 1 [.slice ca cn cc] rfl (fun j u hj => by rw [Addr.add_mid]; exact b6.whole j u hj) (fun u hu => by obtain rfl : u = .slice ca cn cc := (by simpa using hu); rfl) (by omega) (by unfold maxLen; omega) (by omega) (Nat.zero_le _) _ rfl
        have hrne : ∀ g, rv.ownBlock = some g → g ≠ ab := X5.out.n1
        have hS7 : Blk W7 ab 113 (acells d first half g nx rv true) := by unfold Blk; rw [hg7.block ab hS6.lt (fun e => hrne ab e.symm rfl)]; exact hS6
        refine lin_value 7 (.slice (some ⟨gg, 0, none⟩) (k + 1) cap) (some 64) W7 (by kernel_rfl) (by kernel_rfl) (exec_of (Builtin.append_ #[75, 75] 75 #[rv, .slice (some ⟨Q, 0, none⟩) 1 1]) _ (by kernel_rfl) hr7) ?_
        refine lin_now 8 (.pointer (some ⟨ab, 0, none⟩)) (some 65) (by kernel_rfl) (by kernel_rfl) (by kernel_rfl) ?_
        refine lin_now 9 (.pointer (some ⟨ab, 5, none⟩)) (some 66) (by kernel_rfl) (by kernel_rfl) (by kernel_rfl) ?_
        refine lin_cell 10 75 (.tmp 66) (.tmp 64) ab 5 113 _ (.slice (some ⟨gg, 0, none⟩) (k + 1) cap) (by kernel_rfl) (by kernel_rfl) (by kernel_rfl) (by kernel_rfl) (by kernel_rfl) hS7 (by simp [acells]) (by kernel_rfl) rfl rfl ?_
        intro w8 b8 u8 hs8
        refine lin_done 11 (by kernel_rfl) ?_
        obtain ⟨XA, SA, -⟩ := AX.out.added (fun x hx => by have := FB.out x hx; have := BE.out.size; have := hB.out; omega) (by rw [scanR_length]; exact OW.out) VB.out B6 (cv := .slice ca cn cc) (rec := recP R) (fun GG hGG => ((bytes_from V5.out N5.out.2 (GG.filter (· < wr.heap.size)) (fun x hx => .inl (by simpa using (List.mem_filter.1 hx).2))).step (Step.of_below be6' (Nat.le_refl _))).more (fun x hx => by rcases hGG x hx with h | h; exact .inl (List.mem_filter.2 ⟨hx, by simpa using h⟩); exact .inr h)) N5.out.1 RL.out (by rw [scanR_length]; exact ho7) hg7 hat7 u8 (by rw [scanR_length]; exact b8)
        rw [scanR_length] at XA SA
        have GO8 : Hid (G ∉ afoot ab (.slice (some ⟨gg, 0, none⟩) (k + 1) cap) ++ F) := SA.off GX.out.lt (fun hc => by rcases List.mem_append.1 hc with h | h; exact haf.out.1 h; have := FB.out G h; have := GB.out; omega)
        have X8 := Lib.hid XA
        have G8 : Hid (Blk w8 G 91 (ints .u8 L)) := SA.blk GX.out (fun hc => by rcases List.mem_append.1 hc with h | h; exact haf.out.1 h; have := FB.out G h; have := GB.out; omega)
        have A8 : Hid (∀ x ∈ afoot ab (.slice (some ⟨gg, 0, none⟩) (k + 1) cap), B ≤ x) := fun x hx => by
          rcases SA.fresh x (List.mem_append_left _ hx) with h | h
          · rcases List.mem_append.1 h with h | h
            · exact haf.out.2 x h
            · exact absurd h (XA.n2 x hx)
          · have := BE.out.size; have := hB.out; omega
        have B8 : Hid (Below B w w8) := u8.below ((BE.out.trans (B6.mono (by have := BE.out.size; have := hB.out; omega))).grown hg7 (by have := BE.out.size; have := B6.size; have := hB.out; omega) (fun x hx => haf.out.2 x (by simp [afoot, hx]))) (haf.out.2 ab (by simp [afoot])) (by have := BE.out.size; have := B6.size; have := hg7.size; have := hB.out; omega)
        clear XA SA b8 u8 hs8 hS7 hr7 ho7 hg7 hat7 hlt7 hS6 OW6 B6 be6' b6 be6 hs6 OW VB AX X5 V5 N5 GX BE BB5 hrne SV SB KR
        generalize hact : Act.put _ none undef = act
        simp only [Act.put, List.setIfInBounds_toArray, List.set_cons_succ, List.set_cons_zero] at hact
        subst hact
        go_upto_region 10 with (fail)
        refine lin_begin (opsOf Tryd.f81 10) (by kernel_rfl) ?_
        refine lin_now 0 (.pointer (some ⟨ab, 0, none⟩)) (some 67) (by kernel_rfl) (by kernel_rfl) (by kernel_rfl) ?_
        refine lin_now 1 (.pointer (some ⟨ab, 0, none⟩)) (some 68) (by kernel_rfl) (by kernel_rfl) (by kernel_rfl) ?_
        refine lin_now 2 (.pointer (some ⟨ab, 4, none⟩)) (some 69) (by kernel_rfl) (by kernel_rfl) (by kernel_rfl) ?_
        refine lin_now 3 (.int .i64 (nx : Int)) (some 70) (by kernel_rfl) (by kernel_rfl) (exec_load_cell 3 (.tmp 69) (by kernel_rfl) ab 4 (by kernel_rfl) _ X8.out.c4 _ Tryd.underlying3 rfl) ?_
        refine lin_now 4 (.int .i64 (kn : Int)) (some 71) (by kernel_rfl) (by kernel_rfl) (by kernel_rfl) ?_
        refine lin_now 5 (.int .i64 (IntKind.i64.wrap ((nx : Int) + (kn : Int)))) (some 72) (by kernel_rfl) (by kernel_rfl) (by kernel_rfl) ?_
        rw [show IntKind.i64.wrap ((nx : Int) + (kn : Int)) = ((nx + kn : Nat) : Int) from (IntWalk.i64_in _ (by omega)).trans (by omega)]
        refine lin_now 6 (.pointer (some ⟨ab, 0, none⟩)) (some 73) (by kernel_rfl) (by kernel_rfl) (by kernel_rfl) ?_
        refine lin_now 7 (.pointer (some ⟨ab, 4, none⟩)) (some 74) (by kernel_rfl) (by kernel_rfl) (by kernel_rfl) ?_
        refine lin_cell 8 3 (.tmp 74) (.tmp 72) ab 4 113 _ (.int .i64 ((nx + kn : Nat) : Int)) (by kernel_rfl) (by kernel_rfl) (by kernel_rfl) (by kernel_rfl) (by kernel_rfl) X8.out.hb (by simp [acells]) (by kernel_rfl) rfl rfl ?_
        intro w9 b9 u9 hs9
        refine lin_done 9 (by kernel_rfl) ?_
        have X9 : Hid (Arx w9 F ab d first half g (nx + kn) (.slice (some ⟨gg, 0, none⟩) (k + 1) cap) true (scanR L k ++ [recP R])) := X8.out.upd u9 b9
        have G9 : Hid (Blk w9 G 91 (ints .u8 L)) := u9.blk G8.out (fun e => GO8.out (by simp [afoot, e]))
        have B9 : Hid (Below B w w9) := u9.below B8.out (A8.out ab (by simp [afoot])) (by have := B8.out.size; have := hB.out; omega)
        clear b9 u9 hs9 X8 G8 B8
        generalize hact : Act.put _ none undef = act
        simp only [Act.put, List.setIfInBounds_toArray, List.set_cons_succ, List.set_cons_zero] at hact
        subst hact
        have V9 : Hid (scanV L used (k + 1) = (v || decide (((nx + kn : Nat) : Int) = 1 + used))) := by unfold Hid; rw [scanV, SN.out, hv.out]
        cases v with
        | true =>
          go_upto_region 11 with (fail)
          refine lin_begin (opsOf Tryd.f81 11) (by kernel_rfl) ?_
          refine lin_now 0 (.bool true) (some 75) (by kernel_rfl) (by kernel_rfl) (by kernel_rfl) ?_
          refine lin_now 1 (.bool true) (some 76) (by kernel_rfl) (by kernel_rfl) (by kernel_rfl) ?_
          refine lin_pass 2 (some 77) (by kernel_rfl) (by kernel_rfl) ?_
          refine lin_pass 3 (some 78) (by kernel_rfl) (by kernel_rfl) ?_
          refine lin_pass 4 (some 79) (by kernel_rfl) (by kernel_rfl) ?_
          refine lin_pass 5 (some 80) (by kernel_rfl) (by kernel_rfl) ?_
          refine lin_pass 6 (some 81) (by kernel_rfl) (by kernel_rfl) ?_
          refine lin_pass 7 (some 82) (by kernel_rfl) (by kernel_rfl) ?_
          refine lin_pass 8 (some 83) (by kernel_rfl) (by kernel_rfl) ?_
          refine lin_now 9 (.bool true) (some 84) (by kernel_rfl) (by kernel_rfl) (by kernel_rfl) ?_
          refine lin_now 10 (.bool true) (some 10) (by kernel_rfl) (by kernel_rfl) (by kernel_rfl) ?_
          refine lin_done 11 (by kernel_rfl) ?_
          generalize hact : Act.put _ (some 10) _ = act
          simp only [Act.put, List.setIfInBounds_toArray, List.set_cons_succ, List.set_cons_zero] at hact
          subst hact
          go_wp2
          refine ⟨⟨k + 1, _, _, rfl, ?_, fun j hj => ?_, by rw [SN.out, SR.out]; exact X9.out, G9.out, ⟨fun hc => GO8.out (List.mem_append_left _ hc), A8.out⟩, B9.out⟩, ?_⟩
          · unfold Hid; rw [V9.out]; rfl
          · by_cases e : j = k
            · subst e; exact HGO.out.2 UN.out
            · exact hgo.out j (by omega)
          · have c9 := X9.out.c4
            rw [c9]
            simp [intOf]
            omega
        | false =>
          obtain ⟨q, hq⟩ : ∃ q, Hid ((((nx + kn : Nat) : Int) == 1 + used) = q) := ⟨_, rfl⟩
          have hq2 : decide (((nx + kn : Nat) : Int) = 1 + used) = q := by rw [← hq.out]; rfl
          rw [hq2] at V9
          go_upto_region 11 with (fail)
          refine lin_begin (opsOf Tryd.f81 11) (by kernel_rfl) ?_
          refine lin_now 0 (.bool false) (some 75) (by kernel_rfl) (by kernel_rfl) (by kernel_rfl) ?_
          refine lin_now 1 (.bool false) (some 76) (by kernel_rfl) (by kernel_rfl) (by kernel_rfl) ?_
          refine lin_now 2 (.pointer (some ⟨ab, 0, none⟩)) (some 77) (by kernel_rfl) (by kernel_rfl) (by kernel_rfl) ?_
          refine lin_now 3 (.pointer (some ⟨ab, 0, none⟩)) (some 78) (by kernel_rfl) (by kernel_rfl) (by kernel_rfl) ?_
          refine lin_now 4 (.pointer (some ⟨ab, 4, none⟩)) (some 79) (by kernel_rfl) (by kernel_rfl) (by kernel_rfl) ?_
          refine lin_now 5 (.int .i64 ((nx + kn : Nat) : Int)) (some 80) (by kernel_rfl) (by kernel_rfl) (exec_load_cell 3 (.tmp 79) (by kernel_rfl) ab 4 (by kernel_rfl) _ X9.out.c4 _ Tryd.underlying3 rfl) ?_
          refine lin_now 6 (.int .i64 used) (some 81) (by kernel_rfl) (by kernel_rfl) (by kernel_rfl) ?_
          refine lin_now 7 (.int .i64 (IntKind.i64.wrap (1 + used))) (some 82) (by kernel_rfl) (by kernel_rfl) (by kernel_rfl) ?_
          rw [show IntKind.i64.wrap (1 + used) = 1 + used from IntWalk.i64_in _ (by omega)]
          refine lin_now 8 (.bool (((nx + kn : Nat) : Int) == 1 + used)) (some 83) (by kernel_rfl) (by kernel_rfl) (by kernel_rfl) ?_
          rw [hq.out]
          refine lin_now 9 (.bool q) (some 84) (by kernel_rfl) (by kernel_rfl) (by kernel_rfl) ?_
          refine lin_now 10 (.bool q) (some 10) (by kernel_rfl) (by kernel_rfl) (by kernel_rfl) ?_
          refine lin_done 11 (by kernel_rfl) ?_
          generalize hact : Act.put _ (some 10) _ = act
          simp only [Act.put, List.setIfInBounds_toArray, List.set_cons_succ, List.set_cons_zero] at hact
          subst hact
          go_wp2
          refine ⟨⟨k + 1, _, _, rfl, ?_, fun j hj => ?_, by rw [SN.out, SR.out]; exact X9.out, G9.out, ⟨fun hc => GO8.out (List.mem_append_left _ hc), A8.out⟩, B9.out⟩, ?_⟩
          · unfold Hid; rw [V9.out]; rfl
          · by_cases e : j = k
            · subst e; exact HGO.out.2 UN.out
            · exact hgo.out j (by omega)
          · have c9 := X9.out.c4
            rw [c9]
            simp [intOf]
            omega
      · have UN := Lib.hid hun
        clear hun
        go_upto_region 7 with (fail)
        refine region_begin (opsOf Tryd.f81 7) (fun w' => Blk w' ab 113 (acells d first half g nx rv true)) (by kernel_rfl) (by kernel_rfl) 19 (by kernel_rfl) ?_
        intro Q' hQN hN
        have hS : Blk wr.drew ab 113 (acells d first half g nx rv true) := AX.out.hb
        refine reg_now 0 (.slice (some ⟨G, 0, none⟩) half half) (some 40) hQN hS (by kernel_rfl) (by kernel_rfl) (fun w => by kernel_rfl) ?_
        refine reg_now 1 (.pointer (some ⟨ab, 0, none⟩)) (some 41) hQN hS (by kernel_rfl) (by kernel_rfl) (fun w => by kernel_rfl) ?_
        refine reg_now 2 (.pointer (some ⟨ab, 0, none⟩)) (some 42) hQN hS (by kernel_rfl) (by kernel_rfl) (fun w => by kernel_rfl) ?_
        refine reg_now 3 (.pointer (some ⟨ab, 4, none⟩)) (some 43) hQN hS (by kernel_rfl) (by kernel_rfl) (fun w => by kernel_rfl) ?_
        refine reg_nowIf 4 (.int .i64 (nx : Int)) (some 44) hQN hS (by kernel_rfl) (by kernel_rfl) (fun w' hw => exec_load_cell 3 (.tmp 43) (by kernel_rfl) ab 4 (by kernel_rfl) _ (hw.cell rfl) _ Tryd.underlying3 rfl) ?_
        refine reg_now 5 (sv) (some 45) hQN hS (by kernel_rfl) (by kernel_rfl) (fun w' => exec_of (Instr.sliceAt 67 (.slice (some ⟨G, 0, none⟩) half half) (some (.int .i64 (nx : Int))) none none) _ (by kernel_rfl) (SV.out w')) ?_
        refine reg_now 6 (.int .i64 (g : Int)) (some 46) hQN hS (by kernel_rfl) (by kernel_rfl) (fun w => by kernel_rfl) ?_
        refine reg_now 7 (.pointer (some ⟨ab, 0, none⟩)) (some 47) hQN hS (by kernel_rfl) (by kernel_rfl) (fun w => by kernel_rfl) ?_
        refine reg_now 8 (.pointer (some ⟨ab, 0, none⟩)) (some 48) hQN hS (by kernel_rfl) (by kernel_rfl) (fun w => by kernel_rfl) ?_
        refine reg_now 9 (.pointer (some ⟨ab, 4, none⟩)) (some 49) hQN hS (by kernel_rfl) (by kernel_rfl) (fun w => by kernel_rfl) ?_
        refine reg_nowIf 10 (.int .i64 (nx : Int)) (some 50) hQN hS (by kernel_rfl) (by kernel_rfl) (fun w' hw => exec_load_cell 3 (.tmp 49) (by kernel_rfl) ab 4 (by kernel_rfl) _ (hw.cell rfl) _ Tryd.underlying3 rfl) ?_
        refine reg_call 11 98 #[sv, .int .i64 (g : Int), .int .i64 (nx : Int)] (some 51) _ (by kernel_rfl) (by kernel_rfl) (by kernel_rfl) (unpack_no (g : Int) (nx : Int) sv (half - nx) R _ (SB.out.drewN 1) TB.out (by omega) UN.out KR.out) ?_
        rintro e w5 ⟨rfl, hb5⟩
        refine ⟨_, rfl, hS.below hb5 hS.lt, ?_⟩
        refine reg_now 12 (.tuple #[.slice none 0 0, .int .i64 0, .bool false]) (some 39) hQN (hS.below hb5 hS.lt) (by kernel_rfl) (by kernel_rfl) (fun w => by kernel_rfl) ?_
        refine reg_now 13 (.slice none 0 0) (some 52) hQN (hS.below hb5 hS.lt) (by kernel_rfl) (by kernel_rfl) (fun w => by kernel_rfl) ?_
        refine reg_now 14 (.int .i64 0) (some 53) hQN (hS.below hb5 hS.lt) (by kernel_rfl) (by kernel_rfl) (fun w => by kernel_rfl) ?_
        refine reg_now 15 (.bool false) (some 54) hQN (hS.below hb5 hS.lt) (by kernel_rfl) (by kernel_rfl) (fun w => by kernel_rfl) ?_
        refine reg_now 16 (.slice none 0 0) (some 11) hQN (hS.below hb5 hS.lt) (by kernel_rfl) (by kernel_rfl) (fun w => by kernel_rfl) ?_
        refine reg_now 17 (.int .i64 0) (some 12) hQN (hS.below hb5 hS.lt) (by kernel_rfl) (by kernel_rfl) (fun w => by kernel_rfl) ?_
        refine reg_now 18 (.bool false) (some 13) hQN (hS.below hb5 hS.lt) (by kernel_rfl) (by kernel_rfl) (fun w => by kernel_rfl) ?_
        refine reg_done (by kernel_rfl) (hN _ _ ?_)
        have B5 : Below wr.heap.size wr w5 := (Below.refl _ _).drew.trans hb5
        have X5 := Lib.hid (AX.out.below B5)
        have B6 : Hid (Below B w w5) := BE.out.trans (B5.mono (by have := BE.out.size; have := hB.out; omega))
        have ST : Hid (Stops L g half k) := ⟨hgo.out, fun h => UN.out (HGO.out.1 h)⟩
        clear hQN hN hS hb5 B5 AX BE SV SB KR GX
        generalize hact : Act.put _ (some 13) _ = act
        simp only [Act.put, List.setIfInBounds_toArray, List.set_cons_succ, List.set_cons_zero] at hact
        subst hact
        cases v with
        | true =>
          go_wp2
          go_ret
          refine .inl ⟨by rw [hb.out]; exact HOK.out, k, ab, afoot ab rv, by rw [HGL.out]; exact ST.out, by rw [hus.out, ← hv.out], rfl, ⟨rv, rfl, by rw [HGL.out, hnx.out]; exact X5.out⟩, ⟨B6.out.os, B6.out.tape, B6.out.output, B6.out.size, fun x hx _ => B6.out.block x (by rw [← hB.out]; exact hx), fun x hx => .inr (by rw [hB.out]; exact haf.out.2 x hx)⟩⟩
        | false =>
          go_wp2
          go_ret
          refine .inr ⟨fun h => ?_, rfl, by rw [hB.out]; exact B6.out⟩
          obtain ⟨_, K, h1, h2⟩ := h
          rw [HGL.out] at h1
          obtain rfl := h1.unique ST.out
          rw [hus.out, ← hv.out] at h2
          cases h2
end Go.Proofs.YtngpmilojfbpmaaDoor
