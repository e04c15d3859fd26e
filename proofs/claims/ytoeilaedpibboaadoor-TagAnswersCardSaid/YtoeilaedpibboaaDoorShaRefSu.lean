/- The reference's Compress and Sum are the program's. -/
import Derived.Test.YtoeilaedpibboaaDoorShaRefT
import Derived.Test.YtoeilaedpibboaaDoorShaRefK
import Derived.Test.YtoeilaedpibboaaDoorShaSpec
import Derived.Test.YtoeilaedpibboaaDoorShaParts
namespace Go.Proofs.YtoeilaedpibboaaDoor
open Go.RowKit
set_option maxRecDepth 100000

theorem Own.table {w : World} {base : Nat} {v : Value} (h : Own w base 67 .u32 v Sha.K) : ∃ g cap, v = .slice (some ⟨g, 0, none⟩) 64 cap ∧ g < w.heap.size ∧ base ≤ g ∧ ∀ i, i < 64 → w.cell? ⟨g, i, none⟩ = some (.int .u32 (Sha.K[i]?.getD 0)) := by
  obtain ⟨g, cap, rfl, ho⟩ := h
  have hl := ho.lt g rfl
  refine ⟨g, cap, rfl, hl.2, hl.1, fun i hi => ?_⟩
  have := Own.cell ho (j := i) hi
  simpa [List.getD_eq_getElem?_getD] using this
/-- What the reference's Compress has in memory. -/
structure Rc (st bs : List Int) (w wr : World) : Prop where
  b0 : Blk wr w.heap.size 68 (ints .u32 st)
  b1 : Blk wr (w.heap.size + 1) 49 (ints .u8 bs)
  bel : Below w.heap.size w wr
theorem Rc.next {st bs : List Int} {w w1 w2 : World} (h : Rc st bs w w1) (hb : Below w1.heap.size w1 w2) : Rc st bs w w2 :=
  ⟨h.b0.below hb h.b0.lt, h.b1.below hb h.b1.lt, h.bel.trans (hb.mono h.bel.size)⟩
/-- What the reference's Sum has in memory while it goes from block to block. -/
structure Rs (w wr : World) (all : Value) (am : List Int) (g S : Nat) (st : List Int) : Prop where
  r : Blk wr w.heap.size 24 (ints .u8 (List.replicate 32 0))
  a : BytesAt wr S all am
  gl : g < wr.heap.size
  gS : g ≠ S
  k : ∀ i, i < 64 → wr.cell? ⟨g, i, none⟩ = some (.int .u32 (Sha.K[i]?.getD 0))
  s : Blk wr S 68 (ints .u32 st)
  bel : Below w.heap.size w wr
  hS : w.heap.size < S
theorem Rs.upd {w wr wr' : World} {all : Value} {am : List Int} {g S : Nat} {st st' : List Int} (h : Rs w wr all am g S st) (hu : Upd S wr wr') (hs : Blk wr' S 68 (ints .u32 st')) : Rs w wr' all am g S st' :=
  ⟨hu.blk h.r (by have := h.hS; omega), h.a.upd hu, Nat.lt_of_lt_of_le h.gl hu.size, h.gS, fun i hi => by rw [hu.cell (p := ⟨g, i, none⟩) h.gl h.gS]; exact h.k i hi, hs, hu.below h.bel (Nat.le_of_lt h.hS) h.bel.size, h.hS⟩
theorem Rs.next {w wr wr' : World} {all : Value} {am : List Int} {g S : Nat} {st : List Int} (h : Rs w wr all am g S st) (hb : Below wr.heap.size wr wr') : Rs w wr' all am g S st :=
  h.upd (Upd.of_below hb (Nat.le_refl _)) (h.s.below hb h.s.lt)

set_option maxHeartbeats 1000000 in
theorem rsum_walk (u : Value) (zs : List Int) (w : World) (hu : BytesIn w u zs) (hnil : NilOk u) (hm : zs.length ≤ 1000000) :
    Calls Tryd.prog 41 #[u] w fun e w' => e = .returned (.agg (ints .u8 (Sha.sum zs)).toArray) ∧ Below w.heap.size w w' := by
  obtain ⟨sa, c, rfl, -⟩ := id hu
  have HU : Hid (∀ o, BytesIn ((w.alloc o).alloc (.cells #[] 5)) (.slice sa zs.length c) zs) := fun o => hu.below (((Below.refl w.heap.size w).alloc (Nat.le_refl _) _).alloc (by simp) _) (Nat.le_refl _)
  have HE : Hid (∀ o, ((w.alloc o).alloc (.cells #[] 5)).ownsRow (w.heap.size + 1) 5 1 (.slice (some ⟨w.heap.size + 1, 0, none⟩) 0 0) 0 []) := fun o => by have := owns_empty (w.alloc o) (w.heap.size + 1) (by simp); simpa using this
  have HN := Lib.hid hnil
  clear hu hnil
  go_enter Tryd.func41, Tryd.ntmps41
  go_wp2_with (with_reducible refine wpList_append_bytes (o := ⟨some 13, _, _, _, _, _⟩) ?a1 (.tmp 11) (.tmp 12) ?a2 (w.heap.size + 1) (.slice (some ⟨w.heap.size + 1, 0, none⟩) 0 0) [] ?a3 ?a4 (.slice sa zs.length c) zs ?a5 (HU.out _) HN.out ?a6 ?a7 ?_)
  case a1 => rfl
  case a2 => rfl
  all_goals try (case a3 => rfl)
  case a4 => exact HE.out _
  all_goals try (case a5 => rfl)
  case a6 => simp; omega
  case a7 => simp
  intro v1 w1 h1 g1
  have B1 : Hid (Below (w.heap.size + 1) (w.alloc (.cells (ints .u8 (List.replicate 32 0)).toArray 24)) w1) := ((Below.refl (w.heap.size + 1) (w.alloc _)).alloc (by simp) _).grown g1 (by simp) (fun k hk => by simp [Value.ownBlock] at hk; omega)
  have O1 : Hid (w1.ownsRow (w.heap.size + 1) 5 1 v1 zs.length (ints .u8 zs)) := by unfold Hid; simpa using h1
  clear h1 g1 HU HE
  go_wp2_with fail
  refine (rpad_some zs.length (by omega) _).mono ?_
  rintro e w2 ⟨v2, rfl, ⟨g2, c2, rfl, hp2⟩, hb2⟩
  have hw1 : Hid (w.heap.size + 1 ≤ w1.heap.size) := by have := B1.out.size; unfold Hid; simp at this; omega
  have B2 := Lib.hid (B1.out.trans (hb2.mono hw1.out))
  have O2 := Lib.hid (owns_same O1.out (fun g hg => hb2.block g (owns_lt O1.out g hg)))
  have P2 := Lib.hid (owns_bytes hp2)
  have hw2 : Hid (w.heap.size + 1 ≤ w2.heap.size) := Nat.le_trans hw1.out hb2.size
  have HPL : Hid ((Sha.pad zs.length).length ≤ 72) := by unfold Hid; rw [Sha.pad_length]; exact (Sha.padSize_bounds _).2
  obtain ⟨PL, hPL⟩ : ∃ n, Hid (n = (Sha.pad zs.length).length) := ⟨_, rfl⟩
  rw [← hPL.out] at HPL ⊢
  have P2' : Hid (BytesIn w2 (.slice (some ⟨g2, 0, none⟩) PL c2) (Sha.pad zs.length)) := by unfold Hid; rw [hPL.out]; exact P2.out
  have HNN : Hid (NilOk (.slice (some ⟨g2, 0, none⟩) PL c2)) := trivial
  have HLL : Hid (zs.length + (Sha.pad zs.length).length ≤ 70368744177664) := by have := HPL.out; unfold Hid; rw [← hPL.out]; omega
  clear hp2 hb2 B1 O1 P2
  go_wp2_with (with_reducible refine wpList_append_bytes (o := ⟨some 17, _, _, _, _, _⟩) ?b1 (.tmp 13) (.tmp 16) ?b2 (w.heap.size + 1) v1 zs ?b3 O2.out (.slice (some ⟨g2, 0, none⟩) PL c2) (Sha.pad zs.length) ?b5 P2'.out HNN.out HLL.out hw2.out ?_)
  case b1 => rfl
  case b2 => rfl
  all_goals try (case b3 => rfl)
  all_goals try (case b5 => rfl)
  intro v3 w3 h3 g3
  have B3 : Hid (Below (w.heap.size + 1) (w.alloc (.cells (ints .u8 (List.replicate 32 0)).toArray 24)) w3) := B2.out.grown g3 hw2.out (owns_row O2.out)
  have hmod : Hid ((zs ++ Sha.pad zs.length).length % 64 = 0) := by unfold Hid; rw [List.length_append, Sha.pad_length]; exact Sha.padSize_mod _
  have hlen : Hid ((zs ++ Sha.pad zs.length).length ≤ 2000000) := by unfold Hid; rw [List.length_append, ← hPL.out]; have := HPL.out; omega
  have HSUM : Hid (Sha.sum zs = Sha.digest (Sha.stAfter (zs ++ Sha.pad zs.length) ((zs ++ Sha.pad zs.length).length / 64))) := rfl
  generalize zs ++ Sha.pad zs.length = am at *
  have O3 := Lib.hid h3
  have hw3 : Hid (w.heap.size + 1 ≤ w3.heap.size) := Nat.le_trans hw2.out g3.size
  clear h3 g3 B2 O2 P2' HNN HLL hw2 hw1 HPL hPL
  go_wp2_with fail
  refine (constants_walk _).mono ?_
  rintro e w4 ⟨v4, rfl, hv4, hb4⟩
  obtain ⟨g, cap, rfl, hg, hgb, hK⟩ := hv4.table
  have B4 := Lib.hid (B3.out.trans (hb4.mono hw3.out))
  have O4 := Lib.hid (owns_same O3.out (fun g hg => hb4.block g (owns_lt O3.out g hg)))
  have HK := Lib.hid hK
  have HG := Lib.hid hg
  have hw4 : Hid (w.heap.size + 1 ≤ w4.heap.size) := Nat.le_trans hw3.out hb4.size
  clear hv4 hb4 hgb hK hg B3 O3 hw3
  go_wp2_with fail
  refine (rfirst_walk _).mono ?_
  rintro e w5 ⟨rfl, hb5⟩
  have B5 := Lib.hid (B4.out.trans (hb5.mono hw4.out))
  have O5 := Lib.hid (owns_same O4.out (fun g hg => hb5.block g (owns_lt O4.out g hg)))
  have HK5 : Hid (∀ i, i < 64 → w5.cell? ⟨g, i, none⟩ = some (.int .u32 (Sha.K[i]?.getD 0))) := fun i hi => by rw [hb5.cell (p := ⟨g, i, none⟩) HG.out]; exact HK.out i hi
  have HG5 : Hid (g < w5.heap.size) := Nat.lt_of_lt_of_le HG.out hb5.size
  have hw5 : Hid (w.heap.size + 1 ≤ w5.heap.size) := Nat.le_trans hw4.out hb5.size
  clear hb5 B4 O4 HK HG hw4
  go_wp2_with (refine wpList_store_whole rfl 68 _ _ rfl w5.heap.size (ints .u32 Sha.iv) rfl rfl 68 (ints .u32 (List.replicate 8 0)) (Blk.new2 _ _ _ _ _ rfl (by kernel_rfl)) rfl infoState (ints_oneCell _ _) ?_)
  intro w6 hs6 hup6 _
  obtain ⟨S, hS⟩ : ∃ S, S = w5.heap.size := ⟨_, rfl⟩
  rw [← hS] at hs6 hup6 ⊢
  have U6 := ((Upd.refl S w5).alloc _).trans hup6
  obtain ⟨aa, ca, rfl, -⟩ := id (owns_bytes O5.out)
  have R6 : Hid (Rs w w6 (.slice aa am.length ca) am g S (Sha.stAfter am 0)) := by
    have h5 := hw5.out
    have hR5 : Blk w5 w.heap.size 24 (ints .u8 (List.replicate 32 0)) := (Blk.new w 24 (ints .u8 (List.replicate 32 0))).below B5.out (by omega)
    have hB5 : Below w.heap.size w w5 := ((Below.refl w.heap.size w).alloc (Nat.le_refl _) _).trans (B5.out.mono (by omega))
    refine ⟨U6.blk hR5 (by omega), ((owns_bytes O5.out).at (by omega)).upd U6, Nat.lt_of_lt_of_le HG5.out U6.size, by have := HG5.out; omega, fun i hi => ?_, hs6, U6.below hB5 (by omega) hB5.size, by omega⟩
    rw [U6.cell (p := ⟨g, i, none⟩) HG5.out (by have := HG5.out; show g ≠ S; omega)]; exact HK5.out i hi
  clear hs6 hup6 hS U6 B5 O5 HK5 HG5 hw5
  refine wpList_nil ?_
  go_wp2
  go_loopw [6] (fun i wr => ∃ k : Nat, 64 * k ≤ am.length ∧ i = .int .i64 (64 * k : Nat) ∧ Rs w wr (.slice aa am.length ca) am g S (Sha.stAfter am k)) (fun i _ => am.length + 64 - (intOf i).toNat)
  case atStart => exact ⟨0, by omega, rfl, R6.out⟩
  case round =>
    obtain ⟨k, hk, rfl, hR⟩ := hrel
    clear R6
    obtain ⟨I, hI⟩ : ∃ I, Hid (I = 64 * k) := ⟨_, rfl⟩
    rw [← hI.out] at hk ⊢
    obtain ⟨L, hL⟩ : ∃ L, Hid (L = am.length) := ⟨_, rfl⟩
    have hL2 : L ≤ 2000000 := by have := hlen.out; rw [hL.out]; exact this
    rw [← hL.out] at hk hR ⊢
    by_cases hlt : I + 64 ≤ L
    · have q1 : (I : Int) + 64 ≤ (L : Int) := by omega
      have HR := Lib.hid hR
      clear hR
      go_wp2_with (with_reducible refine wpList_store_whole (op := ⟨none, Op.store 49 _ _, _, _, _, _⟩) ?c1 49 (.tmp 7) (.tmp 27) ?c2 wr.heap.size (ints .u8 (List.replicate 64 0)) ?c3 ?c4 49 (ints .u8 (List.replicate 64 0)) ?c5 ?c6 ?c7 (ints_oneCell _ _) ?_)
      case c1 => rfl
      case c2 => rfl
      case c3 => rfl
      case c4 => kernel_rfl
      case c5 => exact Blk.new2 _ _ _ _ _ rfl (by kernel_rfl)
      case c6 => rfl
      case c7 => kernel_rfl
      intro w4 hb4 hup4 hsz4
      have L4 := Lib.hid hb4
      have BW4 : Hid (Below wr.heap.size wr w4) := hup4.below ((Below.refl wr.heap.size wr).alloc (Nat.le_refl _) _) (Nat.le_refl _) (by simp)
      obtain ⟨lB, elB⟩ : ∃ lB, lB = wr.heap.size := ⟨_, rfl⟩
      rw [← elB] at L4 BW4 ⊢
      have ELB := Lib.hid elB
      clear hb4 hup4 hsz4 elB
      refine wpList_nil ?_
      obtain ⟨bk, hbk⟩ : ∃ b, Hid (b = (am.drop I).take 64) := ⟨_, rfl⟩
      have hbl : bk.length = 64 := by rw [hbk.out, List.length_take, List.length_drop, ← hL.out]; omega
      have HBL := Lib.hid hbl
      have hget : Hid (∀ j, j < 64 → am.getD (I + j) 0 = bk.getD j 0) := fun j hj => by
        rw [hbk.out]; simp [List.getD_eq_getElem?_getD, hj, List.getElem?_drop]
      obtain ⟨pb, po, haa, hpS, hplt, hpr⟩ : ∃ pb po, aa = some ⟨pb, po, none⟩ ∧ pb ≠ S ∧ pb < wr.heap.size ∧ wr.rangeAt pb po (ints .u8 am) := by
        obtain ⟨a', c', e', _, h'⟩ := HR.out.a
        obtain ⟨pb, po, h1, h2, h3, h4⟩ := h' (by rw [← hL.out]; omega)
        have : aa = a' := by simpa using (Value.slice.inj e').1
        exact ⟨pb, po, by rw [this, h1], h2, h3, h4⟩
      subst haa
      rw [← ELB.out] at hplt
      have HPR := Lib.hid hpr
      clear hbl hpr
      go_wp2
      go_loopw [8] (fun i w2 => ∃ j : Nat, j ≤ 64 ∧ i = .int .i64 j ∧ Blk w2 lB 49 (ints .u8 (bk.take j ++ List.replicate (64 - j) 0)) ∧ Below lB wr w2) (fun i _ => 64 - (intOf i).toNat)
      case atStart => exact ⟨0, by omega, rfl, by simpa using L4.out, BW4.out⟩
      case round =>
        obtain ⟨j, hj, rfl, hbl, hbw⟩ := hrel
        clear L4 BW4
        by_cases hjl : j < 64
        · have cp : wr.cell? ⟨pb, po + (I + j), none⟩ = some (.int .u8 (bk.getD j 0)) := by
            rw [hbw.cell (p := ⟨pb, po + (I + j), none⟩) hplt, ← hget.out j hjl]
            exact HPR.out (I + j) _ (ints_getD (by rw [← hL.out]; omega))
          have hlj : (bk.take j ++ List.replicate (64 - j) (0 : Int)).length = 64 := by rw [List.length_append, List.length_take, List.length_replicate, HBL.out]; omega
          have cl := hbl.cell (ints_getD (k := .u8) (j := j) (by omega))
          have fl := hbl.free j
          have q2 : (j : Int) < 64 := by omega
          have e1 : IntKind.i64.wrap ((I : Int) + (j : Int)) = (I : Int) + (j : Int) := IntWalk.i64_in _ (by omega)
          have e2 : 0 ≤ (I : Int) + (j : Int) := by omega
          have e3 : ((I : Int) + (j : Int)).toNat = I + j := by omega
          have e4 : (I : Int) + (j : Int) < (L : Int) := by omega
          have HBB := Lib.hid hbl
          have HBW := Lib.hid hbw
          clear hbl hbw hlj
          go_wp2
          clear e1 e3
          go_roundw
          case rel =>
            refine ⟨j + 1, by omega, by go_num, ?_, HBW.out.setCell (Nat.le_refl _) _⟩
            have hs := HBB.out.set j (.int .u8 (bk[j]?.getD 0))
            rw [ints_set] at hs
            have e : (bk.take j ++ List.replicate (64 - j) (0 : Int)).set j (bk[j]?.getD 0) = bk.take (j + 1) ++ List.replicate (64 - (j + 1)) 0 := by
              have h1 := Sha.set_zeros (bk.take j) (64 - (j + 1)) (bk[j]?.getD 0)
              have h2 : (bk.take j).length = j := by rw [List.length_take, HBL.out]; omega
              rw [h2, show 64 - (j + 1) + 1 = 64 - j by omega] at h1
              rw [h1, List.take_add_one, List.getElem?_eq_getElem (by rw [HBL.out]; exact hjl)]
              simp
            rw [e] at hs
            exact hs
          case measure => simp [intOf]; omega
        · have q2 : ¬ ((j : Int) < 64) := by omega
          have q3 : decide ((j : Int) < 64) = false := by simp; omega
          have HBB : Hid (Blk wr lB 49 (ints .u8 bk)) := by
            have e : j = 64 := by omega
            subst e
            have e2 : bk.take 64 ++ List.replicate (64 - 64) 0 = bk := by
              rw [List.take_of_length_le (by rw [HBL.out]; exact Nat.le_refl _)]; simp
            rw [e2] at hbl
            exact hbl
          have R4 := Lib.hid (HR.out.next (ELB.out ▸ hbw))
          have HST1 : Hid (Sha.stAfter am (k + 1) = Sha.compress (Sha.stAfter am k) bk) := by unfold Hid; rw [hbk.out, hI.out]; rfl
          have HST8 : Hid ((Sha.stAfter am k).length = 8) := Sha.stAfter_length _ _
          generalize Sha.stAfter am k = st at *
          clear hbl hbw HR HPR
          have hi8 : Hid ((Tryd.prog.info? 68).map (·.size) = some (ints .u32 st).toArray.size) := by unfold Hid; rw [List.size_toArray, ints_length, HST8.out]; exact infoState
          have hi64 : Hid ((Tryd.prog.info? 49).map (·.size) = some (ints .u8 bk).toArray.size) := by unfold Hid; rw [List.size_toArray, ints_length, HBL.out]; exact infoBlock
          have hcl : (Sha.compress st bk).length = 8 := by rw [Sha.compress_length, HST8.out]
          have hi8' : Hid ((Tryd.prog.info? 68).map (·.size) = some (ints .u32 (Sha.compress st bk)).length) := by unfold Hid; rw [ints_length, hcl]; exact infoState
          have HL8 : Hid ((ints .u32 (Sha.compress st bk)).length = (ints .u32 st).length) := by unfold Hid; rw [ints_length, hcl, ints_length, HST8.out]
          clear hcl
          go_upto_region 12 with (fail)
          refine wp_region_list ?_
          refine wpList_load_row rfl 68 (.tmp 5) rfl S rfl 68 (ints .u32 st).toArray (0, 0) _ R4.out.s Tryd.underlying68 rfl hi8.out ?_
          refine wpList_load_row rfl 49 (.tmp 7) rfl lB rfl 49 (ints .u8 bk).toArray (0, 0) _ HBB.out Tryd.underlying49 rfl hi64.out ?_
          go_wp2_with fail
          refine (taken_ref st bk HST8.out HBL.out g cap _ R4.out.gl R4.out.k).mono ?_
          rintro e w5 ⟨rfl, hb5⟩
          have R5 := Lib.hid (R4.out.next hb5)
          clear hb5 R4 HBB
          go_wp2_with (refine wpList_store_whole rfl 68 _ _ rfl S (ints .u32 (Sha.compress st bk)) rfl rfl 68 (ints .u32 st) R5.out.s HL8.out hi8'.out (ints_oneCell _ _) ?_)
          intro w6 hb6 hup6 _
          have R6 := Lib.hid (R5.out.upd hup6 hb6)
          clear hb6 hup6 R5
          refine wpList_nil ?_
          go_wp2
          refine ⟨⟨k + 1, by have := hI.out; omega, ?_, ?_⟩, ?_⟩
          · have := hI.out
            have e : ((64 * (k + 1) : Nat) : Int) = (I : Int) + 64 := by omega
            rw [e]
          · rw [HST1.out]; exact R6.out
          · simp [intOf]; omega
    · have q1 : ¬ (I : Int) + 64 ≤ (L : Int) := by omega
      have q1' : decide ((I : Int) + 64 ≤ (L : Int)) = false := by simp; omega
      have HSU : Hid (Sha.sum zs = Sha.digest (Sha.stAfter am k)) := by
        have e : am.length / 64 = k := by have h1 := hmod.out; have h2 := hI.out; rw [← hL.out] at h1 ⊢; omega
        unfold Hid; rw [HSUM.out, e]
      have HST8 : Hid ((Sha.stAfter am k).length = 8) := Sha.stAfter_length _ _
      have HR := Lib.hid hR
      clear hR HSUM
      generalize Sha.stAfter am k = st at *
      have HI32 : Hid ((Tryd.prog.info? 24).map (·.size) = some (ints .u8 (List.replicate 32 0)).length) := infoDigest
      go_wp2_with (with_reducible refine wpList_store_whole (op := ⟨none, Op.store 24 _ _, _, _, _, _⟩) ?d1 24 (.tmp 9) (.tmp 44) ?d2 wr.heap.size (ints .u8 (List.replicate 32 0)) ?d3 ?d4 24 (ints .u8 (List.replicate 32 0)) ?d5 ?d6 HI32.out (ints_oneCell _ _) ?_)
      case d1 => rfl
      case d2 => rfl
      all_goals try (case d3 => rfl)
      case d4 => kernel_rfl
      case d5 => exact Blk.new2 _ _ _ _ _ rfl (by kernel_rfl)
      case d6 => rfl
      intro w4 hb4 hup4 hsz4
      have L4 := Lib.hid hb4
      have BW4 : Hid (Below wr.heap.size wr w4) := hup4.below ((Below.refl wr.heap.size wr).alloc (Nat.le_refl _) _) (Nat.le_refl _) (by simp)
      obtain ⟨lB, elB⟩ : ∃ lB, lB = wr.heap.size := ⟨_, rfl⟩
      rw [← elB] at L4 BW4 ⊢
      have ELB := Lib.hid elB
      clear hb4 hup4 hsz4 elB
      refine wpList_nil ?_
      have HDL : Hid ((Sha.digest st).length = 32) := Sha.digestTo_length _ _
      go_wp2
      go_loopw [10] (fun i w2 => ∃ j : Nat, j ≤ 32 ∧ i = .int .i64 j ∧ Blk w2 lB 24 (ints .u8 ((Sha.digest st).take j ++ List.replicate (32 - j) 0)) ∧ Below lB wr w2) (fun i _ => 32 - (intOf i).toNat)
      case atStart => exact ⟨0, by omega, rfl, by simpa using L4.out, BW4.out⟩
      case round =>
        obtain ⟨j, hj, rfl, hbl, hbw⟩ := hrel
        clear L4 BW4 q1 q1'
        have R4 := Lib.hid (HR.out.next (ELB.out ▸ hbw))
        by_cases hjl : j < 32
        · have cs : wr.cell? ⟨S, j / 4, none⟩ = some (.int .u32 (st.getD (j / 4) 0)) := R4.out.s.cell (ints_getD (by rw [HST8.out]; omega))
          have hlj : ((Sha.digest st).take j ++ List.replicate (32 - j) (0 : Int)).length = 32 := by rw [List.length_append, List.length_take, List.length_replicate, HDL.out]; omega
          have cl := hbl.cell (ints_getD (k := .u8) (j := j) (by omega))
          have fl := hbl.free j
          have HG := Lib.hid (Sha.digest_get st j hjl)
          have q2 : (j : Int) < 32 := by omega
          have e1 : ((j : Int) / 4).toNat = j / 4 := by omega
          have e2 : (j : Int) / 4 < 8 := by omega
          have e3 : 0 ≤ (j : Int) / 4 := by omega
          have e4 : (24 - 8 * ((j : Int) % 4)).toNat = 24 - 8 * (j % 4) := by omega
          have e5 : 0 ≤ 24 - 8 * ((j : Int) % 4) := by omega
          have e6 : 8 * ((j : Int) % 4) ≤ 24 := by omega
          have HBB := Lib.hid hbl
          have HBW := Lib.hid hbw
          clear hbl hbw hlj
          go_wp2
          go_roundw
          case rel =>
            refine ⟨j + 1, by omega, by go_num, ?_, HBW.out.setCell (Nat.le_refl _) _⟩
            have hs := HBB.out.set j (.int .u8 (st[j / 4]?.getD 0 / 2 ^ (24 - 8 * (j % 4)) % 256))
            rw [ints_set] at hs
            have e : ((Sha.digest st).take j ++ List.replicate (32 - j) (0 : Int)).set j (st[j / 4]?.getD 0 / 2 ^ (24 - 8 * (j % 4)) % 256) = (Sha.digest st).take (j + 1) ++ List.replicate (32 - (j + 1)) 0 := by
              have h1 := Sha.set_zeros ((Sha.digest st).take j) (32 - (j + 1)) (st[j / 4]?.getD 0 / 2 ^ (24 - 8 * (j % 4)) % 256)
              have h2 : ((Sha.digest st).take j).length = j := by rw [List.length_take, HDL.out]; omega
              rw [h2, show 32 - (j + 1) + 1 = 32 - j by omega] at h1
              rw [h1, List.take_add_one, HG.out]
              rfl
            rw [e] at hs
            exact hs
          case measure => simp [intOf]; omega
        · have q2 : ¬ ((j : Int) < 32) := by omega
          have q3 : decide ((j : Int) < 32) = false := by simp; omega
          have HBB : Hid (Blk wr lB 24 (ints .u8 (Sha.digest st))) := by
            have e : j = 32 := by omega
            subst e
            have e2 : (Sha.digest st).take 32 ++ List.replicate (32 - 32) 0 = Sha.digest st := by
              rw [List.take_of_length_le (by rw [HDL.out]; exact Nat.le_refl _)]; simp
            rw [e2] at hbl
            exact hbl
          clear hbl hbw HR
          rw [← HSU.out] at HBB HDL
          obtain ⟨res, hres⟩ : ∃ r, Hid (Sha.sum zs = r) := ⟨_, rfl⟩
          rw [hres.out] at HBB HDL
          have HI : Hid ((Tryd.prog.info? 24).map (·.size) = some (ints .u8 res).length) := by unfold Hid; rw [ints_length, HDL.out]; exact infoDigest
          have HI' : Hid ((Tryd.prog.info? 24).map (·.size) = some (ints .u8 res).toArray.size) := by unfold Hid; rw [List.size_toArray, ints_length, HDL.out]; exact infoDigest
          have HL : Hid ((ints .u8 res).length = (ints .u8 (List.replicate 32 0)).length) := by unfold Hid; rw [ints_length, HDL.out, ints_length, List.length_replicate]
          go_wp2_with (first
            | (refine wpList_load_row rfl 24 _ rfl lB rfl 24 (ints .u8 res).toArray (0, 0) _ HBB.out Tryd.underlying24 rfl HI'.out ?_)
            | (refine wpList_store_whole rfl 24 _ _ rfl w.heap.size (ints .u8 res) rfl rfl 24 (ints .u8 (List.replicate 32 0)) R4.out.r HL.out HI.out (ints_oneCell _ _) ?_))
          intro w5 hb5 hup5 _
          refine wpList_nil ?_
          go_wp2
          have hbl := hup5.below R4.out.bel (Nat.le_refl _) R4.out.bel.size
          refine bodyPost_ret (v := .agg (ints .u8 res).toArray) ?_ rfl ⟨by rw [hres.out], hbl⟩
          refine results_cell_row (g := w.heap.size) (t := 24) (cs := (ints .u8 res).toArray) (fr := (0, 0)) Tryd.results41 _ _ _ ?_ ?_ Tryd.underlying24 rfl HI'.out
          · rfl
          · exact hb5
end Go.Proofs.YtoeilaedpibboaaDoor
