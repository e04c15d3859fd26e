/- Package area: current, fresh, Open. -/
import Derived.Test.YtngpmilojfbpmaaDoorAreaF
namespace Go.Proofs.YtngpmilojfbpmaaDoor
open Go Go.RowKit
set_option maxRecDepth 100000

/-- The current area is the one at f. -/
def CurAt (seen : List Int) (half f : Nat) : Prop :=
  (f = 0 ∧ validP (secsP seen 0 half) half ∧ (¬ validP (secsP seen half half) half ∨ headG (secsP seen half half) < headG (secsP seen 0 half))) ∨
  (f = half ∧ validP (secsP seen half half) half ∧ (¬ validP (secsP seen 0 half) half ∨ headG (secsP seen 0 half) ≤ headG (secsP seen half half)))
/-- An area as it is read. -/
def ReadAt (F : List Nat) (d half f : Nat) (L : List Int) (ab : Nat) (A : List Nat) (w' : World) : Prop :=
  headOk (headB L) ∧ ∃ K, Stops L (headG L) half K ∧ scanV L (headU L) K = true ∧ Ar w' A F ab d f half (headG L) (scanN L K) true (scanR L K)
theorem ReadAt.below {F : List Nat} {d half f : Nat} {L : List Int} {ab : Nat} {A : List Nat} {w w' : World} (h : ReadAt F d half f L ab A w) (hb : Below w.heap.size w w') : ReadAt F d half f L ab A w' := by
  obtain ⟨h1, K, h2, h3, h4⟩ := h
  exact ⟨h1, K, h2, h3, h4.below hb⟩
theorem ReadAt.valid {F : List Nat} {d half f : Nat} {L : List Int} {ab : Nat} {A : List Nat} {w : World} (h : ReadAt F d half f L ab A w) : validP L half := by
  obtain ⟨h1, K, h2, h3, _⟩ := h
  exact ⟨h1, K, h2, h3⟩
def CurPost (F : List Nat) (d half : Nat) (seen : List Int) (w : World) (e : Ending) (w' : World) : Prop :=
  (∃ ab, e = .returned (.pointer (some ⟨ab, 0, none⟩)) ∧ ∃ f A, CurAt seen half f ∧ ReadAt F d half f (secsP seen f half) ab A w' ∧ Step [] w A w') ∨
  (e = .returned (.pointer none) ∧ (¬ validP (secsP seen 0 half) half ∧ ¬ validP (secsP seen half half) half) ∧ Below w.heap.size w w')
theorem stored_read {F : List Nat} {d f half : Nat} {L : List Int} {w : World} {e : Ending} {w' : World} (h : StoredPost F d f half L w e w') : (∃ ab, e = .returned (.pointer (some ⟨ab, 0, none⟩)) ∧ ∃ A, ReadAt F d half f L ab A w' ∧ Step [] w A w') ∨ (¬ validP L half ∧ e = .returned (.pointer none) ∧ Below w.heap.size w w') := by
  rcases h with ⟨h1, K, ab, A, h2, h3, h4, h5, h6⟩ | h
  · exact .inl ⟨ab, h4, A, ⟨h1, K, h2, h3, h5⟩, h6⟩
  · exact .inr h
theorem ReadAt.c3 {F : List Nat} {d half f : Nat} {L : List Int} {ab : Nat} {A : List Nat} {w : World} (h : ReadAt F d half f L ab A w) : w.cell? ⟨ab, 3, none⟩ = some (.int .i64 (headG L : Int)) := by
  obtain ⟨_, K, _, _, rv, _, h4⟩ := h
  exact h4.c3
theorem ReadAt.c1 {F : List Nat} {d half f : Nat} {L : List Int} {ab : Nat} {A : List Nat} {w : World} (h : ReadAt F d half f L ab A w) : w.cell? ⟨ab, 1, none⟩ = some (.int .i64 (f : Int)) := by
  obtain ⟨_, K, _, _, rv, _, h4⟩ := h
  exact h4.c1
theorem Step.nil_below {A : List Nat} {u w w' : World} (h : Step [] u A w) (hb : Below w.heap.size w w') : Step [] u A w' := h.trans (Step.of_below hb (Nat.le_refl _))
set_option maxHeartbeats 4000000 in
theorem current_walk (d sz : Nat) (F : List Nat) (seen dur : List Int) (pend : List Wr) (left : Int) (w : World) (h : Dk w F d sz seen dur pend left) (hby : isBytes seen) (h4 : 4 ≤ sz) (hK : KW w) :
    Calls Tryd.prog 65 #[.pointer (some ⟨d, 0, none⟩)] w (CurPost F d (sz / 2) seen w) := by
  have HD := Lib.hid h
  have HK := Lib.hid hK
  have HBY := Lib.hid hby
  have SZ : sz ≤ 4096 := by obtain ⟨sB, dB, sc, dc, rs, rd, pv, -, hx⟩ := id h; exact hx.big
  obtain ⟨half, hhf⟩ : ∃ half, Hid (sz / 2 = half) := ⟨_, rfl⟩
  rw [hhf.out]
  have hs0 : 0 + half ≤ sz := by have := hhf.out; omega
  have hs1 : half + half ≤ sz := by have := hhf.out; omega
  clear h hK hby
  go_enter Tryd.func65, Tryd.ntmps65
  go_upto_region 1 with (fail)
  refine lin_begin (opsOf Tryd.f65 1) (by kernel_rfl) ?_
  refine lin_now 0 (.pointer (some ⟨d, 0, none⟩)) (some 5) (by kernel_rfl) (by kernel_rfl) (by kernel_rfl) ?_
  refine lin_call 1 81 #[.pointer (some ⟨d, 0, none⟩), .int .i64 ((0 : Nat) : Int)] (some 6) _ (by kernel_rfl) (by kernel_rfl) (by kernel_rfl) (stored_walk d sz 0 F seen dur pend left _ HD.out HBY.out h4 (by rw [hhf.out]; exact hs0) HK.out) ?_
  intro e w1 hp1
  rw [hhf.out] at hp1
  have hb1 : Below w.heap.size w w1 ∧ ∃ a, e = .returned (.pointer a) := by
    rcases stored_read hp1 with ⟨ab, h1, A, _, h3⟩ | ⟨_, h1, h2⟩
    · exact ⟨h3.below, _, h1⟩
    · exact ⟨h2, _, h1⟩
  obtain ⟨hb1, p1, rfl⟩ := hb1
  have P1 := Lib.hid (stored_read hp1)
  have D1 := Lib.hid (HD.out.below hb1)
  have K1 : Hid (KW w1) := HK.out.below hb1 HK.out.lt
  have B1 := Lib.hid hb1
  clear hp1 hb1
  refine ⟨_, rfl, ?_⟩
  refine lin_now 2 (.pointer (some ⟨d, 0, none⟩)) (some 7) (by kernel_rfl) (by kernel_rfl) (by kernel_rfl) ?_
  refine lin_now 3 (.pointer (some ⟨d, 0, none⟩)) (some 8) (by kernel_rfl) (by kernel_rfl) (by kernel_rfl) ?_
  refine lin_call 4 64 #[.pointer (some ⟨d, 0, none⟩)] (some 9) _ (by kernel_rfl) (by kernel_rfl) (by kernel_rfl) (size_walk d sz F seen dur pend left _ D1.out) ?_
  rintro e w2 ⟨rfl, rfl⟩
  refine ⟨_, rfl, ?_⟩
  refine lin_now 5 (.int .i64 ((sz / 2 : Nat) : Int)) (some 10) (by kernel_rfl) (by kernel_rfl) (exec_half 3 3 (.tmp 9) (.const (.int .i64 2)) (by kernel_rfl) sz (by kernel_rfl) (by kernel_rfl) (by omega)) ?_
  rw [hhf.out]
  refine lin_call 6 81 #[.pointer (some ⟨d, 0, none⟩), .int .i64 (half : Int)] (some 11) _ (by kernel_rfl) (by kernel_rfl) (by kernel_rfl) (stored_walk d sz half F seen dur pend left _ D1.out HBY.out h4 (by rw [hhf.out]; exact hs1) K1.out) ?_
  intro e w3 hp3
  rw [hhf.out] at hp3
  have hb3 : Below w1.heap.size w1 w3 ∧ ∃ a, e = .returned (.pointer a) := by
    rcases stored_read hp3 with ⟨ab, h1, A, _, h3⟩ | ⟨_, h1, h2⟩
    · exact ⟨h3.below, _, h1⟩
    · exact ⟨h2, _, h1⟩
  obtain ⟨hb3, p3, rfl⟩ := hb3
  have P3 := Lib.hid (stored_read hp3)
  have B3 := Lib.hid hb3
  clear hp3 hb3
  refine ⟨_, rfl, ?_⟩
  refine lin_now 7 (.pointer p1) (some 3) (by kernel_rfl) (by kernel_rfl) (by kernel_rfl) ?_
  refine lin_now 8 (.pointer p3) (some 4) (by kernel_rfl) (by kernel_rfl) (by kernel_rfl) ?_
  refine lin_done 9 (by kernel_rfl) ?_
  clear HD D1 K1 HK
  generalize hact : Act.put _ (some 4) _ = act
  simp only [Act.put, List.setIfInBounds_toArray, List.set_cons_succ, List.set_cons_zero] at hact
  subst hact
  have B13 : Hid (Below w.heap.size w w3) := B1.out.trans (B3.out.mono B1.out.size)
  rcases P3.out with ⟨ab3, e3, A3, r3, s3⟩ | ⟨nv3, e3, -⟩
  · obtain rfl : p3 = some ⟨ab3, 0, none⟩ := by cases e3; rfl
    have R3 := Lib.hid r3
    have S3 : Hid (Step [] w A3 w3) := ⟨s3.os.trans B1.out.os, s3.tape.trans B1.out.tape, s3.output.trans B1.out.output, Nat.le_trans B1.out.size s3.size, fun k hk _ => (s3.block k (Nat.lt_of_lt_of_le hk B1.out.size) (by simp)).trans (B1.out.block k hk), fun k hk => by rcases s3.fresh k hk with h | h; exact .inl h; exact .inr (Nat.le_trans B1.out.size h)⟩
    clear r3 s3 e3 P3
    rcases P1.out with ⟨ab1, e1, A1, r1, s1⟩ | ⟨nv1, e1, -⟩
    · obtain rfl : p1 = some ⟨ab1, 0, none⟩ := by cases e1; rfl
      have R1 := Lib.hid (r1.below B3.out)
      have S1 : Hid (Step [] w A1 w3) := s1.nil_below B3.out
      have c1 := R1.out.c3
      have c3 := R3.out.c3
      obtain ⟨g1, hg1⟩ : ∃ g, Hid (headG (secsP seen 0 half) = g) := ⟨_, rfl⟩
      obtain ⟨g3, hg3⟩ : ∃ g, Hid (headG (secsP seen half half) = g) := ⟨_, rfl⟩
      rw [hg1.out] at c1
      rw [hg3.out] at c3
      clear r1 s1 e1 P1 B1 B3
      by_cases hlt : g3 < g1
      · have q : (g3 : Int) < (g1 : Int) := by omega
        go_wp2
        go_quiet (fail)
        go_wp2
        go_ret
        refine .inl ⟨ab1, rfl, 0, A1, .inl ⟨rfl, R1.out.valid, .inr (by rw [hg1.out, hg3.out]; exact hlt)⟩, R1.out.below (below_drewN _ _), S1.out.nil_below (below_drewN _ _)⟩
      · have q : ¬ (g3 : Int) < (g1 : Int) := by omega
        go_wp2
        go_quiet (fail)
        go_wp2
        go_ret
        refine .inl ⟨ab3, rfl, half, A3, .inr ⟨rfl, R3.out.valid, .inr (by rw [hg1.out, hg3.out]; omega)⟩, R3.out.below (below_drewN _ _), S3.out.nil_below (below_drewN _ _)⟩
    · obtain rfl : p1 = none := by cases e1; rfl
      have NV := Lib.hid nv1
      clear nv1 e1 P1 B1 B3
      go_wp2
      go_quiet (fail)
      go_wp2
      go_ret
      refine .inl ⟨ab3, rfl, half, A3, .inr ⟨rfl, R3.out.valid, .inl NV.out⟩, R3.out.below (below_drewN _ _), S3.out.nil_below (below_drewN _ _)⟩
  · obtain rfl : p3 = none := by cases e3; rfl
    have NV3 := Lib.hid nv3
    clear nv3 e3 P3
    rcases P1.out with ⟨ab1, e1, A1, r1, s1⟩ | ⟨nv1, e1, -⟩
    · obtain rfl : p1 = some ⟨ab1, 0, none⟩ := by cases e1; rfl
      have R1 := Lib.hid (r1.below B3.out)
      have S1 : Hid (Step [] w A1 w3) := s1.nil_below B3.out
      clear r1 s1 e1 P1 B1 B3
      go_wp2
      go_quiet (fail)
      go_wp2
      go_ret
      refine .inl ⟨ab1, rfl, 0, A1, .inl ⟨rfl, R1.out.valid, .inl NV3.out⟩, R1.out.below (below_drewN _ _), S1.out.nil_below (below_drewN _ _)⟩
    · obtain rfl : p1 = none := by cases e1; rfl
      have NV := Lib.hid nv1
      clear nv1 e1 P1 B1 B3
      go_wp2
      go_quiet (fail)
      go_wp2
      go_ret
      refine .inr ⟨rfl, ⟨NV.out, NV3.out⟩, B13.out.trans (below_drewN _ _ |>.mono B13.out.size)⟩
def OpenPost (F : List Nat) (d half : Nat) (seen : List Int) (w : World) (e : Ending) (w' : World) : Prop :=
  (∃ ab, e = .returned (.tuple #[.pointer (some ⟨ab, 0, none⟩), .int .i64 0]) ∧ ∃ f A, CurAt seen half f ∧ ReadAt F d half f (secsP seen f half) ab A w' ∧ Step [] w A w') ∨
  (e = .returned (.tuple #[.pointer none, .int .i64 12]) ∧ (¬ validP (secsP seen 0 half) half ∧ ¬ validP (secsP seen half half) half) ∧ Below w.heap.size w w')
set_option maxHeartbeats 2000000 in
theorem open_walk (d sz : Nat) (F : List Nat) (seen dur : List Int) (pend : List Wr) (left : Int) (w : World) (h : Dk w F d sz seen dur pend left) (hby : isBytes seen) (h4 : 4 ≤ sz) (hK : KW w) :
    Calls Tryd.prog 33 #[.pointer (some ⟨d, 0, none⟩)] w (OpenPost F d (sz / 2) seen w) := by
  have HD := Lib.hid h
  have HK := Lib.hid hK
  have HBY := Lib.hid hby
  have q4 : ¬ (sz : Int) < 4 := by omega
  clear h hK hby
  go_enter Tryd.func33, Tryd.ntmps33
  go_wp2_with fail
  refine (size_walk d sz F seen dur pend left _ HD.out).mono ?_
  rintro e w1 ⟨rfl, rfl⟩
  go_wp2_with fail
  refine (current_walk d sz F seen dur pend left _ HD.out HBY.out h4 HK.out).mono ?_
  intro e w2 hp
  rcases hp with ⟨ab, rfl, f, A, h1, h2, h3⟩ | ⟨rfl, h1, h2⟩
  · have H1 := Lib.hid h1
    have H2 := Lib.hid h2
    have H3 := Lib.hid h3
    clear h1 h2 h3
    go_wp2
    go_ret2
    exact .inl ⟨ab, rfl, f, A, H1.out, H2.out, H3.out⟩
  · have H1 := Lib.hid h1
    have H2 := Lib.hid h2
    clear h1 h2
    go_wp2
    go_ret2
    exact .inr ⟨rfl, H1.out, H2.out⟩
theorem highK_nonneg {l : List Int} (h : isBytes l) : ∀ n, 0 ≤ highK l n
  | 0 => Int.le_refl _
  | n + 1 => by
    have := highK_nonneg h n
    rw [highK]
    unfold mx
    split <;> (try split) <;> omega
theorem end_range {b : List Int} (hb : isBytes b) : 0 ≤ endP b ∧ endP b < 4294967296 := by
  have h := numB_range (bytes_take (bytes_drop hb 56) 4)
  have h2 : ((b.drop 56).take 4).length ≤ 4 := by rw [List.length_take]; omega
  have h3 : (256 : Int) ^ ((b.drop 56).take 4).length ≤ 256 ^ 4 := by exact_mod_cast Nat.pow_le_pow_right (show 0 < 256 by decide) h2
  exact ⟨h.1, by unfold endP; omega⟩
theorem highK_le {l : List Int} (h : isBytes l) {sz : Nat} (hl : l.length = 64 * sz) : ∀ n, n ≤ sz → highK l n ≤ 4294967295
  | 0, _ => by show (0 : Int) ≤ 4294967295; decide
  | n + 1, hn => by
    have h1 := highK_le h hl n (by omega)
    have h2 := gen_range (sub_bytes h n) (getB_length hl (by omega))
    have h3 := end_range (sub_bytes h n)
    rw [highK]
    unfold mx
    split <;> (try split) <;> omega
/-- Where an area is begun. -/
def FreshAt (seen : List Int) (half f : Nat) : Prop := (CurAt seen half 0 ∧ f = half) ∨ (¬ CurAt seen half 0 ∧ f = 0)
theorem CurAt.unique {seen : List Int} {half f f' : Nat} (h : CurAt seen half f) (h' : CurAt seen half f') (h0 : 0 < half) : f = f' := by
  rcases h with ⟨rfl, h1, h2⟩ | ⟨rfl, h1, h2⟩ <;> rcases h' with ⟨rfl, h3, h4⟩ | ⟨rfl, h3, h4⟩
  · rfl
  · rcases h2 with h2 | h2
    · exact absurd h3 h2
    · rcases h4 with h4 | h4
      · exact absurd h1 h4
      · omega
  · rcases h2 with h2 | h2
    · exact absurd h3 h2
    · rcases h4 with h4 | h4
      · exact absurd h1 h4
      · omega
  · rfl
theorem run_build_area2 (d first half gen next : Nat) (w : World) : (Instr.build 113 #[(0, .pointer (some ⟨d, 0, none⟩)), (1, .int .i64 (first : Int)), (2, .int .i64 (half : Int)), (3, .int .i64 (gen : Int)), (4, .int .i64 (next : Int))]).run Tryd.prog w = .ok (.agg (acells d first half gen next (.slice none 0 0) false).toArray) w := by kernel_rfl
def FreshPost (F : List Nat) (d half gen : Nat) (seen : List Int) (w : World) (e : Ending) (w' : World) : Prop :=
  ∃ ab, e = .returned (.pointer (some ⟨ab, 0, none⟩)) ∧ ∃ f A, FreshAt seen half f ∧ Ar w' A F ab d f half gen 1 false [] ∧ Step [] w A w'
set_option maxHeartbeats 1000000 in
theorem fresh_walk (d sz : Nat) (F : List Nat) (seen dur : List Int) (pend : List Wr) (left : Int) (w : World) (h : Dk w F d sz seen dur pend left) (hby : isBytes seen) (h4 : 4 ≤ sz) (hK : KW w) :
    Calls Tryd.prog 84 #[.pointer (some ⟨d, 0, none⟩)] w (FreshPost F d (sz / 2) ((highK seen sz).toNat + 1) seen w) := by
  have HD := Lib.hid h
  have HK := Lib.hid hK
  have HBY := Lib.hid hby
  have LS : Hid (seen.length = 64 * sz) := by obtain ⟨sB, dB, sc, dc, rs, rd, pv, -, hx⟩ := id h; exact hx.ls
  have SZ : sz ≤ 4096 := by obtain ⟨sB, dB, sc, dc, rs, rd, pv, -, hx⟩ := id h; exact hx.big
  obtain ⟨half, hhf⟩ : ∃ half, Hid (sz / 2 = half) := ⟨_, rfl⟩
  rw [hhf.out]
  obtain ⟨hg, hhg⟩ : ∃ g : Nat, Hid (highK seen sz = (g : Int)) := ⟨(highK seen sz).toNat, by unfold Hid; have := highK_nonneg hby sz; omega⟩
  have hgm : hg ≤ 4294967295 := by have := highK_le hby LS.out sz (Nat.le_refl _); have := hhg.out; omega
  have SS : Hid (secsP seen 0 sz = seen) := by unfold Hid secsP; rw [Nat.mul_zero, List.drop_zero, List.take_of_length_le (by rw [LS.out]; omega)]
  have half2 : 2 ≤ half := by have := hhf.out; omega
  rw [show (highK seen sz).toNat = hg by rw [hhg.out]; rfl]
  have FB : Hid (∀ k ∈ F, k < w.heap.size) := HD.out.lt
  clear h hK hby
  go_enter Tryd.func84, Tryd.ntmps84
  go_upto_region 1 with (fail)
  refine lin_begin (opsOf Tryd.f84 1) (by kernel_rfl) ?_
  refine lin_now 0 (.pointer (some ⟨d, 0, none⟩)) (some 7) (by kernel_rfl) (by kernel_rfl) (by kernel_rfl) ?_
  refine lin_call 1 64 #[.pointer (some ⟨d, 0, none⟩)] (some 8) _ (by kernel_rfl) (by kernel_rfl) (by kernel_rfl) (size_walk d sz F seen dur pend left _ HD.out) ?_
  rintro e w1 ⟨rfl, rfl⟩
  refine ⟨_, rfl, ?_⟩
  refine lin_now 2 (.int .i64 ((sz / 2 : Nat) : Int)) (some 9) (by kernel_rfl) (by kernel_rfl) (exec_half 3 3 (.tmp 8) (.const (.int .i64 2)) (by kernel_rfl) sz (by kernel_rfl) (by kernel_rfl) (by omega)) ?_
  rw [hhf.out]
  refine lin_now 3 (.int .i64 (half : Int)) (some 3) (by kernel_rfl) (by kernel_rfl) (by kernel_rfl) ?_
  refine lin_done 4 (by kernel_rfl) ?_
  generalize hact : Act.put _ (some 3) _ = act
  simp only [Act.put, List.setIfInBounds_toArray, List.set_cons_succ, List.set_cons_zero] at hact
  subst hact
  go_wp2_with fail
  refine (current_walk d sz F seen dur pend left _ HD.out HBY.out h4 HK.out).mono ?_
  rw [hhf.out]
  intro e w2 hp
  have key : ∃ (p : Option Addr) (f : Nat), e = .returned (.pointer p) ∧ FreshAt seen half f ∧ Below w.heap.size w w2 ∧ ((p = none ∧ f = 0) ∨ ∃ (ab fc : Nat), p = some ⟨ab, 0, none⟩ ∧ w2.cell? ⟨ab, 1, none⟩ = some (.int .i64 (fc : Int)) ∧ (fc = 0 ∧ half = f ∨ fc ≠ 0 ∧ f = 0)) := by
    rcases hp with ⟨ab, rfl, fc, A, h1, h2, h3⟩ | ⟨rfl, h1, h2⟩
    · by_cases hfc : fc = 0
      · subst hfc
        exact ⟨_, half, rfl, .inl ⟨h1, rfl⟩, h3.below, .inr ⟨ab, 0, rfl, h2.c1, .inl ⟨rfl, rfl⟩⟩⟩
      · exact ⟨_, 0, rfl, .inr ⟨fun hc => hfc (h1.unique hc (by omega)), rfl⟩, h3.below, .inr ⟨ab, fc, rfl, h2.c1, .inr ⟨hfc, rfl⟩⟩⟩
    · exact ⟨_, 0, rfl, .inr ⟨fun hc => by rcases hc with ⟨_, h, _⟩ | ⟨_, h, _⟩; exact h1.1 h; exact h1.2 h, rfl⟩, h2, .inl ⟨rfl, rfl⟩⟩
  obtain ⟨p, f, rfl, hfr, hb2, hpf⟩ := key
  have FR := Lib.hid hfr
  have BE2 := Lib.hid hb2
  have D2 := Lib.hid (HD.out.below hb2)
  clear hp hfr hb2
  have hf2 : f ≤ half := by rcases hpf with ⟨_, h⟩ | ⟨_, _, _, _, ⟨_, h⟩ | ⟨_, h⟩⟩ <;> omega
  rcases hpf with ⟨rfl, rfl⟩ | ⟨ab0, fc, rfl, hc0, hff⟩
  · go_upto_region 6 with (fail)
    refine lin_begin (opsOf Tryd.f84 6) (by kernel_rfl) ?_
    refine lin_now 0 (.pointer (some ⟨d, 0, none⟩)) (some 22) (by kernel_rfl) (by kernel_rfl) (by kernel_rfl) ?_
    refine lin_now 1 (.pointer (some ⟨d, 0, none⟩)) (some 23) (by kernel_rfl) (by kernel_rfl) (by kernel_rfl) ?_
    refine lin_call 2 64 #[.pointer (some ⟨d, 0, none⟩)] (some 24) _ (by kernel_rfl) (by kernel_rfl) (by kernel_rfl) (size_walk d sz F seen dur pend left _ D2.out) ?_
    rintro e w3 ⟨rfl, rfl⟩
    refine ⟨_, rfl, ?_⟩
    refine lin_call 3 96 #[.pointer (some ⟨d, 0, none⟩), .int .i64 ((0 : Nat) : Int), .int .i64 (sz : Int)] (some 25) _ (by kernel_rfl) (by kernel_rfl) (by kernel_rfl) (sectors_walk d sz 0 sz F seen dur pend left _ D2.out (by omega)) ?_
    rintro e w4 ⟨G, rfl, hG, hblk, hb4⟩
    refine ⟨_, rfl, ?_⟩
    rw [SS.out] at hblk
    refine lin_call 4 100 #[.slice (some ⟨G, 0, none⟩) sz sz] (some 26) _ (by kernel_rfl) (by kernel_rfl) (by kernel_rfl) (highest_walk _ sz seen _ (blks_blk hblk LS.out) HBY.out (by omega)) ?_
    rintro e w5 ⟨rfl, hb5⟩
    refine ⟨_, rfl, ?_⟩
    rw [hhg.out]
    refine lin_now 5 (.int .i64 (IntKind.i64.wrap (1 + (hg : Int)))) (some 27) (by kernel_rfl) (by kernel_rfl) (by kernel_rfl) ?_
    rw [show IntKind.i64.wrap (1 + (hg : Int)) = ((hg + 1 : Nat) : Int) from (IntWalk.i64_in _ (by omega)).trans (by omega)]
    refine lin_now 6 (.int .i64 ((hg + 1 : Nat) : Int)) (some 6) (by kernel_rfl) (by kernel_rfl) (by kernel_rfl) ?_
    refine lin_done 7 (by kernel_rfl) ?_
    have BE5 : Hid (Below w.heap.size w w5) := (BE2.out.trans (hb4.mono BE2.out.size)).trans (hb5.mono (Nat.le_trans BE2.out.size hb4.size))
    obtain ⟨ab, hab⟩ : ∃ ab, Hid (w5.heap.size = ab) := ⟨_, rfl⟩
    have BA : Hid (w.heap.size ≤ ab) := by unfold Hid; rw [← hab.out]; exact BE5.out.size
    clear hG hblk hb4 hb5 BE2 D2
    generalize hact : Act.put _ (some 6) _ = act
    simp only [Act.put, List.setIfInBounds_toArray, List.set_cons_succ, List.set_cons_zero] at hact
    subst hact
    go_upto_region 7 with (fail)
    refine lin_begin (opsOf Tryd.f84 7) (by kernel_rfl) ?_
    refine lin_now 0 (.pointer (some ⟨d, 0, none⟩)) (some 28) (by kernel_rfl) (by kernel_rfl) (by kernel_rfl) ?_
    refine lin_now 1 (.int .i64 ((0 : Nat) : Int)) (some 29) (by kernel_rfl) (by kernel_rfl) (by kernel_rfl) ?_
    refine lin_now 2 (.int .i64 (half : Int)) (some 30) (by kernel_rfl) (by kernel_rfl) (by kernel_rfl) ?_
    refine lin_now 3 (.int .i64 ((hg + 1 : Nat) : Int)) (some 31) (by kernel_rfl) (by kernel_rfl) (by kernel_rfl) ?_
    refine lin_now 4 (.agg (acells d 0 half (hg + 1) 1 (.slice none 0 0) false).toArray) (some 32) (by kernel_rfl) (by kernel_rfl) (exec_of (Instr.build 113 #[(0, .pointer (some ⟨d, 0, none⟩)), (1, .int .i64 ((0 : Nat) : Int)), (2, .int .i64 (half : Int)), (3, .int .i64 ((hg + 1 : Nat) : Int)), (4, .int .i64 ((1 : Nat) : Int))]) _ (by kernel_rfl) (run_build_area2 d 0 half (hg + 1) 1 _)) ?_
    refine lin_box 5 113 (.tmp 32) (acells d 0 half (hg + 1) 1 (.slice none 0 0) false) (ab) (some 33) (by kernel_rfl) (by kernel_rfl) (by kernel_rfl) (by kernel_rfl) hab ?_
    intro w6 b6 be6 hs6
    refine lin_now 6 (.pointer (some ⟨ab, 0, none⟩)) (some 2) (by kernel_rfl) (by kernel_rfl) (by kernel_rfl) ?_
    refine lin_done 7 (by kernel_rfl) ?_
    have A6 : Hid (Arx w6 F ab d 0 half (hg + 1) 1 (.slice none 0 0) false []) := ⟨b6, ⟨[], ⟨rfl, .inl ⟨rfl, rfl⟩⟩, fun i v zs hv => by simp at hv⟩, fun g hg => by simp [Value.ownBlock] at hg, fun k hk hc => by
      obtain rfl : k = ab := by simpa [afoot, Value.ownBlock] using hk
      have := FB.out k hc
      have := BA.out
      omega, fun zs hz => by simp at hz⟩
    have BE6 : Hid (Below w.heap.size w w6) := BE5.out.trans (be6.mono BA.out)
    clear b6 be6 hs6 BE5
    generalize hact : Act.put _ (some 2) _ = act
    simp only [Act.put, List.setIfInBounds_toArray, List.set_cons_succ, List.set_cons_zero] at hact
    subst hact
    go_wp2
    go_ret
    exact ⟨ab, rfl, 0, afoot ab (.slice none 0 0), FR.out, ⟨_, rfl, A6.out⟩, BE6.out.os, BE6.out.tape, BE6.out.output, BE6.out.size, fun x hx _ => BE6.out.block x hx, fun x hx => .inr (by obtain rfl : x = ab := (by simpa [afoot, Value.ownBlock] using hx); exact BA.out)⟩
  · have C0 := Lib.hid hc0
    clear hc0
    rcases hff with ⟨rfl, rfl⟩ | ⟨hne, rfl⟩
    · have c := C0.out
      go_upto_region 6 with (fail)
      refine lin_begin (opsOf Tryd.f84 6) (by kernel_rfl) ?_
      refine lin_now 0 (.pointer (some ⟨d, 0, none⟩)) (some 22) (by kernel_rfl) (by kernel_rfl) (by kernel_rfl) ?_
      refine lin_now 1 (.pointer (some ⟨d, 0, none⟩)) (some 23) (by kernel_rfl) (by kernel_rfl) (by kernel_rfl) ?_
      refine lin_call 2 64 #[.pointer (some ⟨d, 0, none⟩)] (some 24) _ (by kernel_rfl) (by kernel_rfl) (by kernel_rfl) (size_walk d sz F seen dur pend left _ D2.out) ?_
      rintro e w3 ⟨rfl, rfl⟩
      refine ⟨_, rfl, ?_⟩
      refine lin_call 3 96 #[.pointer (some ⟨d, 0, none⟩), .int .i64 ((0 : Nat) : Int), .int .i64 (sz : Int)] (some 25) _ (by kernel_rfl) (by kernel_rfl) (by kernel_rfl) (sectors_walk d sz 0 sz F seen dur pend left _ D2.out (by omega)) ?_
      rintro e w4 ⟨G, rfl, hG, hblk, hb4⟩
      refine ⟨_, rfl, ?_⟩
      rw [SS.out] at hblk
      refine lin_call 4 100 #[.slice (some ⟨G, 0, none⟩) sz sz] (some 26) _ (by kernel_rfl) (by kernel_rfl) (by kernel_rfl) (highest_walk _ sz seen _ (blks_blk hblk LS.out) HBY.out (by omega)) ?_
      rintro e w5 ⟨rfl, hb5⟩
      refine ⟨_, rfl, ?_⟩
      rw [hhg.out]
      refine lin_now 5 (.int .i64 (IntKind.i64.wrap (1 + (hg : Int)))) (some 27) (by kernel_rfl) (by kernel_rfl) (by kernel_rfl) ?_
      rw [show IntKind.i64.wrap (1 + (hg : Int)) = ((hg + 1 : Nat) : Int) from (IntWalk.i64_in _ (by omega)).trans (by omega)]
      refine lin_now 6 (.int .i64 ((hg + 1 : Nat) : Int)) (some 6) (by kernel_rfl) (by kernel_rfl) (by kernel_rfl) ?_
      refine lin_done 7 (by kernel_rfl) ?_
      have BE5 : Hid (Below w.heap.size w w5) := (BE2.out.trans (hb4.mono BE2.out.size)).trans (hb5.mono (Nat.le_trans BE2.out.size hb4.size))
      obtain ⟨ab, hab⟩ : ∃ ab, Hid (w5.heap.size = ab) := ⟨_, rfl⟩
      have BA : Hid (w.heap.size ≤ ab) := by unfold Hid; rw [← hab.out]; exact BE5.out.size
      clear hG hblk hb4 hb5 BE2 D2
      generalize hact : Act.put _ (some 6) _ = act
      simp only [Act.put, List.setIfInBounds_toArray, List.set_cons_succ, List.set_cons_zero] at hact
      subst hact
      go_upto_region 7 with (fail)
      refine lin_begin (opsOf Tryd.f84 7) (by kernel_rfl) ?_
      refine lin_now 0 (.pointer (some ⟨d, 0, none⟩)) (some 28) (by kernel_rfl) (by kernel_rfl) (by kernel_rfl) ?_
      refine lin_now 1 (.int .i64 ((half : Nat) : Int)) (some 29) (by kernel_rfl) (by kernel_rfl) (by kernel_rfl) ?_
      refine lin_now 2 (.int .i64 (half : Int)) (some 30) (by kernel_rfl) (by kernel_rfl) (by kernel_rfl) ?_
      refine lin_now 3 (.int .i64 ((hg + 1 : Nat) : Int)) (some 31) (by kernel_rfl) (by kernel_rfl) (by kernel_rfl) ?_
      refine lin_now 4 (.agg (acells d half half (hg + 1) 1 (.slice none 0 0) false).toArray) (some 32) (by kernel_rfl) (by kernel_rfl) (exec_of (Instr.build 113 #[(0, .pointer (some ⟨d, 0, none⟩)), (1, .int .i64 ((half : Nat) : Int)), (2, .int .i64 (half : Int)), (3, .int .i64 ((hg + 1 : Nat) : Int)), (4, .int .i64 ((1 : Nat) : Int))]) _ (by kernel_rfl) (run_build_area2 d half half (hg + 1) 1 _)) ?_
      refine lin_box 5 113 (.tmp 32) (acells d half half (hg + 1) 1 (.slice none 0 0) false) (ab) (some 33) (by kernel_rfl) (by kernel_rfl) (by kernel_rfl) (by kernel_rfl) hab ?_
      intro w6 b6 be6 hs6
      refine lin_now 6 (.pointer (some ⟨ab, 0, none⟩)) (some 2) (by kernel_rfl) (by kernel_rfl) (by kernel_rfl) ?_
      refine lin_done 7 (by kernel_rfl) ?_
      have A6 : Hid (Arx w6 F ab d half half (hg + 1) 1 (.slice none 0 0) false []) := ⟨b6, ⟨[], ⟨rfl, .inl ⟨rfl, rfl⟩⟩, fun i v zs hv => by simp at hv⟩, fun g hg => by simp [Value.ownBlock] at hg, fun k hk hc => by
        obtain rfl : k = ab := by simpa [afoot, Value.ownBlock] using hk
        have := FB.out k hc
        have := BA.out
        omega, fun zs hz => by simp at hz⟩
      have BE6 : Hid (Below w.heap.size w w6) := BE5.out.trans (be6.mono BA.out)
      clear b6 be6 hs6 BE5
      generalize hact : Act.put _ (some 2) _ = act
      simp only [Act.put, List.setIfInBounds_toArray, List.set_cons_succ, List.set_cons_zero] at hact
      subst hact
      go_wp2
      go_ret
      exact ⟨ab, rfl, half, afoot ab (.slice none 0 0), FR.out, ⟨_, rfl, A6.out⟩, BE6.out.os, BE6.out.tape, BE6.out.output, BE6.out.size, fun x hx _ => BE6.out.block x hx, fun x hx => .inr (by obtain rfl : x = ab := (by simpa [afoot, Value.ownBlock] using hx); exact BA.out)⟩
    · have c := C0.out
      have q : ((fc : Int) == 0) = false := by simpa using hne
      go_upto_region 6 with (fail)
      refine lin_begin (opsOf Tryd.f84 6) (by kernel_rfl) ?_
      refine lin_now 0 (.pointer (some ⟨d, 0, none⟩)) (some 22) (by kernel_rfl) (by kernel_rfl) (by kernel_rfl) ?_
      refine lin_now 1 (.pointer (some ⟨d, 0, none⟩)) (some 23) (by kernel_rfl) (by kernel_rfl) (by kernel_rfl) ?_
      refine lin_call 2 64 #[.pointer (some ⟨d, 0, none⟩)] (some 24) _ (by kernel_rfl) (by kernel_rfl) (by kernel_rfl) (size_walk d sz F seen dur pend left _ D2.out) ?_
      rintro e w3 ⟨rfl, rfl⟩
      refine ⟨_, rfl, ?_⟩
      refine lin_call 3 96 #[.pointer (some ⟨d, 0, none⟩), .int .i64 ((0 : Nat) : Int), .int .i64 (sz : Int)] (some 25) _ (by kernel_rfl) (by kernel_rfl) (by kernel_rfl) (sectors_walk d sz 0 sz F seen dur pend left _ D2.out (by omega)) ?_
      rintro e w4 ⟨G, rfl, hG, hblk, hb4⟩
      refine ⟨_, rfl, ?_⟩
      rw [SS.out] at hblk
      refine lin_call 4 100 #[.slice (some ⟨G, 0, none⟩) sz sz] (some 26) _ (by kernel_rfl) (by kernel_rfl) (by kernel_rfl) (highest_walk _ sz seen _ (blks_blk hblk LS.out) HBY.out (by omega)) ?_
      rintro e w5 ⟨rfl, hb5⟩
      refine ⟨_, rfl, ?_⟩
      rw [hhg.out]
      refine lin_now 5 (.int .i64 (IntKind.i64.wrap (1 + (hg : Int)))) (some 27) (by kernel_rfl) (by kernel_rfl) (by kernel_rfl) ?_
      rw [show IntKind.i64.wrap (1 + (hg : Int)) = ((hg + 1 : Nat) : Int) from (IntWalk.i64_in _ (by omega)).trans (by omega)]
      refine lin_now 6 (.int .i64 ((hg + 1 : Nat) : Int)) (some 6) (by kernel_rfl) (by kernel_rfl) (by kernel_rfl) ?_
      refine lin_done 7 (by kernel_rfl) ?_
      have BE5 : Hid (Below w.heap.size w w5) := (BE2.out.trans (hb4.mono BE2.out.size)).trans (hb5.mono (Nat.le_trans BE2.out.size hb4.size))
      obtain ⟨ab, hab⟩ : ∃ ab, Hid (w5.heap.size = ab) := ⟨_, rfl⟩
      have BA : Hid (w.heap.size ≤ ab) := by unfold Hid; rw [← hab.out]; exact BE5.out.size
      clear hG hblk hb4 hb5 BE2 D2
      generalize hact : Act.put _ (some 6) _ = act
      simp only [Act.put, List.setIfInBounds_toArray, List.set_cons_succ, List.set_cons_zero] at hact
      subst hact
      go_upto_region 7 with (fail)
      refine lin_begin (opsOf Tryd.f84 7) (by kernel_rfl) ?_
      refine lin_now 0 (.pointer (some ⟨d, 0, none⟩)) (some 28) (by kernel_rfl) (by kernel_rfl) (by kernel_rfl) ?_
      refine lin_now 1 (.int .i64 ((0 : Nat) : Int)) (some 29) (by kernel_rfl) (by kernel_rfl) (by kernel_rfl) ?_
      refine lin_now 2 (.int .i64 (half : Int)) (some 30) (by kernel_rfl) (by kernel_rfl) (by kernel_rfl) ?_
      refine lin_now 3 (.int .i64 ((hg + 1 : Nat) : Int)) (some 31) (by kernel_rfl) (by kernel_rfl) (by kernel_rfl) ?_
      refine lin_now 4 (.agg (acells d 0 half (hg + 1) 1 (.slice none 0 0) false).toArray) (some 32) (by kernel_rfl) (by kernel_rfl) (exec_of (Instr.build 113 #[(0, .pointer (some ⟨d, 0, none⟩)), (1, .int .i64 ((0 : Nat) : Int)), (2, .int .i64 (half : Int)), (3, .int .i64 ((hg + 1 : Nat) : Int)), (4, .int .i64 ((1 : Nat) : Int))]) _ (by kernel_rfl) (run_build_area2 d 0 half (hg + 1) 1 _)) ?_
      refine lin_box 5 113 (.tmp 32) (acells d 0 half (hg + 1) 1 (.slice none 0 0) false) (ab) (some 33) (by kernel_rfl) (by kernel_rfl) (by kernel_rfl) (by kernel_rfl) hab ?_
      intro w6 b6 be6 hs6
      refine lin_now 6 (.pointer (some ⟨ab, 0, none⟩)) (some 2) (by kernel_rfl) (by kernel_rfl) (by kernel_rfl) ?_
      refine lin_done 7 (by kernel_rfl) ?_
      have A6 : Hid (Arx w6 F ab d 0 half (hg + 1) 1 (.slice none 0 0) false []) := ⟨b6, ⟨[], ⟨rfl, .inl ⟨rfl, rfl⟩⟩, fun i v zs hv => by simp at hv⟩, fun g hg => by simp [Value.ownBlock] at hg, fun k hk hc => by
        obtain rfl : k = ab := by simpa [afoot, Value.ownBlock] using hk
        have := FB.out k hc
        have := BA.out
        omega, fun zs hz => by simp at hz⟩
      have BE6 : Hid (Below w.heap.size w w6) := BE5.out.trans (be6.mono BA.out)
      clear b6 be6 hs6 BE5
      generalize hact : Act.put _ (some 2) _ = act
      simp only [Act.put, List.setIfInBounds_toArray, List.set_cons_succ, List.set_cons_zero] at hact
      subst hact
      go_wp2
      go_ret
      exact ⟨ab, rfl, 0, afoot ab (.slice none 0 0), FR.out, ⟨_, rfl, A6.out⟩, BE6.out.os, BE6.out.tape, BE6.out.output, BE6.out.size, fun x hx _ => BE6.out.block x hx, fun x hx => .inr (by obtain rfl : x = ab := (by simpa [afoot, Value.ownBlock] using hx); exact BA.out)⟩
end Go.Proofs.YtngpmilojfbpmaaDoor
