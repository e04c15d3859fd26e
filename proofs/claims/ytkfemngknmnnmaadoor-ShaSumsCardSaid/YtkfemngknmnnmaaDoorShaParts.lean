/- ShaParts answers true. -/
import Derived.Test.YtkfemngknmnnmaaDoorShaRows
namespace Go.Proofs.YtkfemngknmnnmaaDoor
open Go.RowKit

theorem owns_lt {w : World} {base n : Nat} {v : Value} {xs : List Value} (h : w.ownsRow base 5 1 v n xs) : ∀ g, v.ownBlock = some g → g < w.heap.size := by
  obtain ⟨_, h2⟩ := h
  rcases h2 with ⟨rfl, _⟩ | ⟨g, cap, cur, rfl, _, hg, _⟩
  · intro k hk; cases hk
  · intro k hk
    obtain rfl : g = k := by simpa [Value.ownBlock] using hk
    exact (Array.getElem?_eq_some_iff.1 hg).1
theorem owns_same {w w' : World} {base n : Nat} {v : Value} {xs : List Value} (h : w.ownsRow base 5 1 v n xs) (hb : ∀ g, v.ownBlock = some g → w'.heap[g]? = w.heap[g]?) : w'.ownsRow base 5 1 v n xs := by
  obtain ⟨h1, h2⟩ := h
  refine ⟨h1, ?_⟩
  rcases h2 with h2 | ⟨g, cap, cur, rfl, hb2, hg, r⟩
  · exact Or.inl h2
  · exact Or.inr ⟨g, cap, cur, rfl, hb2, by rw [hb g rfl]; exact hg, r⟩
theorem owns_bytes_at {w : World} {base n b : Nat} {v : Value} {zs : List Int} (h : w.ownsRow base 5 1 v n (ints .u8 zs)) (hb : b < base) : BytesAt w b v zs := by
  obtain ⟨a, cap, rfl, h2, h3⟩ := owns_bytes h
  refine ⟨a, cap, rfl, h2, fun hp => ?_⟩
  obtain ⟨pb, po, rfl, h5, h6⟩ := h3 hp
  have := owns_row h pb rfl
  exact ⟨pb, po, rfl, by omega, h5, h6⟩

/-- A hash, and a slice of the call's own, of the same bytes. -/
structure Going (w wr : World) (B h : Nat) (all : Value) (msg : List Int) : Prop where
  hash : HashIs wr h msg
  own : wr.ownsRow B 5 1 all msg.length (ints .u8 msg)
  bel : Below w.heap.size w wr
  hB : h < B
  hw : w.heap.size ≤ h
  BS : B ≤ wr.heap.size
theorem Going.next {w w1 w2 : World} {B h C : Nat} {all : Value} {msg : List Int} (t : Going w w1 B h all msg) (hb : Below C w1 w2) (hC : B ≤ C) (hl : ∀ g, all.ownBlock = some g → g < C) : Going w w2 B h all msg :=
  ⟨t.hash.below hb (by have := t.hB; omega), owns_same t.own (fun g hg => hb.block g (hl g hg)), t.bel.trans (hb.mono (by have := t.hB; have := t.hw; omega)), t.hB, t.hw, Nat.le_trans t.BS hb.size⟩
theorem Going.next' {w w1 w2 : World} {B h : Nat} {all : Value} {msg : List Int} (t : Going w w1 B h all msg) (hb : Below w1.heap.size w1 w2) : Going w w2 B h all msg := t.next hb t.BS (owns_lt t.own)
theorem Going.alloc {w w1 : World} {B h : Nat} {all : Value} {msg : List Int} (t : Going w w1 B h all msg) (o : Obj) : Going w (w1.alloc o) B h all msg := t.next' ((Below.refl _ _).alloc (Nat.le_refl _) _)
theorem Going.upd {w w1 w2 : World} {B h : Nat} {all : Value} {msg msg2 : List Int} (t : Going w w1 B h all msg) (hu : Upd h w1 w2) (hh : HashIs w2 h msg2) :
    HashIs w2 h msg2 ∧ w2.ownsRow B 5 1 all msg.length (ints .u8 msg) ∧ Below w.heap.size w w2 ∧ B ≤ w2.heap.size :=
  ⟨hh, owns_same t.own (fun g hg => hu.block g (owns_lt t.own g hg) (by have := owns_row t.own g hg; have := t.hB; omega)), hu.below t.bel t.hw t.bel.size, Nat.le_trans t.BS hu.size⟩

set_option maxHeartbeats 2000000 in
set_option maxRecDepth 100000 in
theorem parts_main (a : Option Addr) (cap : Nat) (zss : List (List Int)) (w : World) (hv : PartsIn w (.slice a zss.length cap) zss) (hK : KW w) :
    Calls Tryd.prog 4 #[.slice a zss.length cap] w fun e w' => e = .returned (.bool true) ∧ Below w.heap.size w w' := by
  have HV := Lib.hid hv
  have HK := Lib.hid hK
  clear hv hK
  go_enter Tryd.func4, Tryd.ntmps4
  go_wp2_with fail
  refine (alive_walk _ HK.out).mono ?_
  rintro e w1 ⟨rfl, hb1⟩
  have BEL1 := Lib.hid hb1
  clear hb1
  go_wp2_with fail
  have HV1 : Hid (PartsIn w1 (.slice a zss.length cap) zss) := by
    obtain ⟨a', cap', ps, e1, h2, h3, h4, h5⟩ := HV.out
    refine ⟨a', cap', ps, e1, h2, h3, fun hp => ?_, fun k v zs hv hz => ⟨((h5 k v zs hv hz).1).below BEL1.out (Nat.le_refl _), (h5 k v zs hv hz).2⟩⟩
    obtain ⟨qb, qo, h6, h7, h8⟩ := h4 hp
    exact ⟨qb, qo, h6, Nat.lt_of_lt_of_le h7 BEL1.out.size, fun j v hv => by rw [BEL1.out.cell (p := ⟨qb, qo + j, none⟩) h7]; exact h8 j v hv⟩
  refine (rows_walk _ zss _ HV1.out).mono ?_
  rintro e w1' ⟨r, rfl, hr, rfl⟩
  clear HV1
  by_cases hbig : 4000 < r
  · have q0 : (4000 : Int) < (r : Int) := by omega
    clear hr
    go_wp2
    go_ret
    exact ⟨rfl, BEL1.out⟩
  obtain ⟨hfl, hzl⟩ := hr (by omega)
  have q0 : ¬ ((4000 : Int) < (r : Int)) := by omega
  have hfl4 : zss.flatten.length ≤ 4000 := by omega
  clear hr hfl
  go_wp2_with fail
  refine (new_walk _).mono ?_
  rintro e w2 ⟨h, hh1, rfl, hh2, hbel2⟩
  have hlt2 := hh2.lt
  have hw2 : w.heap.size ≤ h := by have := BEL1.out.size; omega
  have G2 : Hid (Going w (w2.alloc (.cells #[] 5)) w2.heap.size h (.slice (some ⟨w2.heap.size, 0, none⟩) 0 0) []) :=
    ⟨hh2.alloc _, owns_empty w2 _ (Nat.le_refl _), (BEL1.out.trans (hbel2.mono BEL1.out.size)).alloc (by have := BEL1.out.size; have := hbel2.size; omega) _, hlt2, hw2, by simp⟩
  obtain ⟨B, hB⟩ : ∃ B, B = w2.heap.size := ⟨_, rfl⟩
  have hKh : 0 ≠ h := by have := HK.out.lt; omega
  obtain ⟨m, em⟩ : ∃ m, Hid (m = zss.length) := ⟨_, rfl⟩
  have hml : m ≤ 4000 := by rw [em.out]; exact hzl
  clear hh1 hh2 hbel2 BEL1 hzl
  rw [← em.out] at HV ⊢
  rw [← hB] at G2
  have HBQ := Lib.hid hB
  clear hB
  go_wp2
  go_loopw [4, 5] (fun al i wr => ∃ k : Nat, k ≤ m ∧ i = .int .i64 k ∧ Going w wr B h al (zss.take k).flatten) (fun _ i _ => m - (intOf i).toNat)
  case atStart =>
    refine ⟨0, by omega, rfl, ?_⟩
    rw [← HBQ.out]
    simpa using G2.out
  case round =>
    obtain ⟨k, hk, rfl, hg⟩ := hrel
    clear G2
    obtain ⟨aa, ca, eal, -⟩ := owns_bytes hg.own
    subst eal
    have hmlen : (zss.take k).flatten.length ≤ 4000 := by
      have h1 : zss.flatten.length = (zss.take k).flatten.length + (zss.drop k).flatten.length := by
        conv => lhs; rw [← List.take_append_drop k zss, List.flatten_append, List.length_append]
      omega
    by_cases hlt : k < m
    · obtain ⟨a', cap', ps, e1, h2, h3, h4, h5⟩ := HV.out
      have h4' := h4 (by rw [← em.out]; omega)
      obtain ⟨qb, qo, ea, hq2, hq3⟩ := h4'
      obtain ⟨v, hvk⟩ : ∃ v, ps[k]? = some v := ⟨_, List.getElem?_eq_getElem (by rw [h2, ← em.out]; exact hlt)⟩
      obtain ⟨zs, hzk⟩ : ∃ zs, zss[k]? = some zs := ⟨_, List.getElem?_eq_getElem (by rw [← em.out]; exact hlt)⟩
      have hbz := h5 k v zs hvk hzk
      have ea' : a = some ⟨qb, qo, none⟩ := by rw [← ea]; simpa using (Value.slice.inj e1).1
      have cq : wr.cell? ⟨qb, qo + k, none⟩ = some v := by rw [hg.bel.cell (p := ⟨qb, qo + k, none⟩) hq2]; exact hq3 k v hvk
      have hfl1 : (zss.take (k + 1)).flatten = (zss.take k).flatten ++ zs := by rw [List.take_add_one, hzk]; simp
      have hzs4 : zs.length ≤ 4000 := by
        have h1 : zss.flatten.length = (zss.take (k + 1)).flatten.length + (zss.drop (k + 1)).flatten.length := by
          conv => lhs; rw [← List.take_append_drop (k + 1) zss, List.flatten_append, List.length_append]
        rw [hfl1, List.length_append] at h1
        omega
      have hcq0 := hq3 k v hvk
      have HBZ := Lib.hid hbz.1
      have HNZ := Lib.hid hbz.2.1
      have HFL := Lib.hid hfl1
      have G := Lib.hid hg
      have q1 : (k : Int) < (m : Int) := by omega
      clear h2 h3 h4 h5 ea hq3 hvk hzk hbz hfl1 hg e1
      generalize (zss.take k).flatten = msg at *
      obtain ⟨va, vc, ev, -⟩ := id HBZ.out
      subst ev
      subst ea'
      have hcq := Lib.hid hcq0
      clear hcq0
      go_wp2_with fail
      refine (copyb_walk _ zs _ (HBZ.out.below G.out.bel (Nat.le_refl _)) HNZ.out (by omega)).mono ?_
      rintro e w3 ⟨own, rfl, ho3, hb3⟩
      have G3 := Lib.hid (G.out.next' hb3)
      have O3 := Lib.hid ho3
      have hsz3 := hb3.size
      have hhB := G.out.hB
      have hhC : h < wr.heap.size := by have := G.out.hB; have := G.out.BS; omega
      have hallC : Hid (∀ g, (Value.slice aa msg.length ca).ownBlock = some g → g < wr.heap.size) := owns_lt G.out.own
      obtain ⟨oa, oc, eo, -⟩ := owns_bytes ho3
      subst eo
      clear hb3 ho3
      go_wp2_with fail
      have BY3 := Lib.hid (owns_bytes_at O3.out hhC)
      refine (write_walk h msg [zs] _ _ (G3.out.hash.alloc _) (parts_one (Blk.new2 _ _ _ [_] _ rfl rfl) (by omega) (BY3.out.alloc _)) (by simp; omega) ((HK.out.below G3.out.bel HK.out.lt).alloc _) hKh).mono ?_
      rintro e w4 ⟨rfl, hh4, hu4⟩
      have hh4' : HashIs w4 h (msg ++ zs) := by simpa using hh4
      have G4 := Lib.hid ((G3.out.alloc _).upd hu4 hh4')
      have O4 : Hid (w4.ownsRow wr.heap.size 5 1 (.slice oa zs.length oc) zs.length (ints .u8 zs)) :=
        owns_same (O3.out.alloc _) (fun g hg => hu4.block g (owns_lt (O3.out.alloc _) g hg) (by have := owns_row O3.out g hg; omega))
      have hsz4 : wr.heap.size ≤ w4.heap.size := by have := hu4.size; simp at this; omega
      clear hh4 hh4' hu4 BY3 O3
      obtain ⟨n, en⟩ : ∃ n, n = zs.length := ⟨_, rfl⟩
      rw [← en] at O4 ⊢
      obtain ⟨C, eC⟩ : ∃ C, C = wr.heap.size := ⟨_, rfl⟩
      rw [← eC] at O4 hallC hhC hsz4
      have hn4 : n ≤ 4000 := by omega
      have EN := Lib.hid en
      have hBC : B ≤ C := by rw [eC]; exact G.out.BS
      clear en eC hsz3 G3 G cq
      go_wp2
      go_loopw [7] (fun i wx => ∃ j : Nat, j ≤ n ∧ i = .int .i64 j ∧ ∃ zs' : List Int, Hid (zs'.length = n) ∧ wx.ownsRow C 5 1 (.slice oa n oc) n (ints .u8 zs') ∧ Below C w4 wx) (fun i _ => n - (intOf i).toNat)
      case atStart => exact ⟨0, by omega, rfl, zs, EN.out.symm, O4.out, Below.refl _ _⟩
      case round =>
        obtain ⟨j, hj, rfl, zs', hz', ho, hbx⟩ := hrel
        by_cases hjl : j < n
        · obtain ⟨g, cap2, cur, eg, hgb, hgh, -⟩ : ∃ g cap2 cur, (Value.slice oa n oc) = .slice (some ⟨g, 0, none⟩) n cap2 ∧ C ≤ g ∧ wr.heap[g]? = some (.cells cur 5 (0, 0)) ∧ True := by
            rcases ho.2 with ⟨_, h0⟩ | ⟨g, cap2, cur, e1, e2, e3, _⟩
            · omega
            · exact ⟨g, cap2, cur, e1, e2, e3, trivial⟩
          obtain ⟨ea, ec⟩ : oa = some ⟨g, 0, none⟩ ∧ oc = cap2 := by
            have := Value.slice.inj eg
            exact ⟨this.1, this.2.2⟩
          subst ea
          have cj : wr.cell? ⟨g, j, none⟩ = some (.int .u8 (zs'.getD j 0)) := by
            rw [ho.cellAt j (by omega)]; exact ints_getD (by rw [hz'.out]; exact hjl)
          have fj := ho.frozenAt j
          have q2 : (j : Int) < (n : Int) := by omega
          have HO := Lib.hid ho
          have HBX := Lib.hid hbx
          clear ho hbx eg hgh ec
          go_wp2
          go_roundw
          case rel =>
            have hs := (HO.out.stored j (.int .u8 ((zs'[j]?.getD 0 + 1) % 256))).1
            rw [ints_set] at hs
            exact ⟨j + 1, by omega, by go_num, zs'.set j ((zs'[j]?.getD 0 + 1) % 256), by unfold Hid; rw [List.length_set]; exact hz'.out, hs, HBX.out.setCell hgb _⟩
          case measure => simp [intOf]; omega
        · have q2 : ¬ ((j : Int) < (n : Int)) := by omega
          have HBX := Lib.hid hbx
          clear ho hbx hz'
          have H5 := Lib.hid (G4.out.1.below HBX.out hhC)
          have A5 : Hid (wr.ownsRow B 5 1 (.slice aa msg.length ca) msg.length (ints .u8 msg)) := owns_same G4.out.2.1 (fun g hg => HBX.out.block g (hallC.out g hg))
          have BEL5 : Hid (Below w.heap.size w wr) := G4.out.2.2.1.trans (HBX.out.mono (by omega))
          have hBS5 : B ≤ wr.heap.size := by have := HBX.out.size; have := G4.out.2.2.2; omega
          have cq5 : wr.cell? ⟨qb, qo + k, none⟩ = some (.slice va zs.length vc) := by
            rw [BEL5.out.cell (p := ⟨qb, qo + k, none⟩) hq2]; exact hcq.out
          have HBZ5 := Lib.hid (HBZ.out.below BEL5.out (Nat.le_refl _))
          clear G4 HBX
          go_wp2_with (with_reducible refine wpList_append_bytes (o := ⟨some 50, _, _, _, _, _⟩) ?a1 (.tmp 45) (.tmp 49) ?a2 B (.slice aa msg.length ca) msg ?a3 A5.out (.slice va zs.length vc) zs ?a5 HBZ5.out HNZ.out ?a6 ?a7 ?_)
          case a1 => rfl
          case a2 => rfl
          try (case a3 => rfl)
          try (case a5 => rfl)
          try (case a6 => omega)
          try (case a7 => omega)
          intro al w6 ha6 hg6
          have BG6 : Below B wr w6 := (Below.refl B wr).grown hg6 hBS5 (owns_row A5.out)
          have G6 : Hid (Going w w6 B h al (msg ++ zs)) := ⟨H5.out.below BG6 hhB, by rw [List.length_append]; simpa using ha6, BEL5.out.trans (BG6.mono (by omega)), hhB, hw2, Nat.le_trans hBS5 BG6.size⟩
          obtain ⟨ya, yc, ey, -⟩ := owns_bytes ha6
          subst ey
          have hM : (msg ++ zs).length + 72 ≤ 1125899906842624 := by rw [List.length_append]; omega
          have HM := Lib.hid hM
          have hd : (Sha.sum (msg ++ zs)).length = 32 := Sha.sum_length _
          have e1 := eq_digest _ hd
          have BYA := Lib.hid (owns_bytes G6.out.own)
          clear ha6 hg6 BG6 H5 A5 BEL5 hBS5 HBZ5 cq5 hM hd
          rw [← HFL.out] at G6 HM BYA e1 ⊢
          have hlM : (zss.take (k + 1)).flatten.length ≤ 8000 := by rw [HFL.out, List.length_append]; omega
          obtain ⟨M, eM⟩ : ∃ M, Hid ((zss.take (k + 1)).flatten = M) := ⟨_, rfl⟩
          rw [eM.out] at G6 HM BYA e1 hlM ⊢
          have hne : ((M.length : Int) != (M.length : Int)) = false := by simp
          go_wp2_with fail
          refine (len_walk h M _ G6.out.hash).mono ?_
          rintro e w7 ⟨rfl, rfl⟩
          go_wp2_with fail
          refine (hsum_walk h M _ G6.out.hash HM.out (HK.out.below G6.out.bel HK.out.lt)).mono ?_
          rintro e w7 ⟨rfl, hb7⟩
          have G7 := Lib.hid (G6.out.next' hb7)
          have BYA7 := Lib.hid (BYA.out.below hb7 (Nat.le_refl _))
          clear hb7 G6 BYA
          go_wp2_with fail
          refine (sum_walk _ M _ BYA7.out HM.out (HK.out.below G7.out.bel HK.out.lt)).mono ?_
          rintro e w8 ⟨rfl, hb8⟩
          have G8 := Lib.hid (G7.out.next' hb8)
          clear hb8 G7 BYA7
          generalize hdg : Sha.sum M = dg at *
          have HDG := Lib.hid hdg
          clear hdg
          go_wp2_with fail
          refine (hsum_walk h M _ G8.out.hash HM.out (HK.out.below G8.out.bel HK.out.lt)).mono ?_
          rintro e w9 ⟨rfl, hb9⟩
          rw [HDG.out]
          have G9 := Lib.hid (G8.out.next' hb9)
          clear hb9 G8
          go_wp2_with fail
          refine (hsum_walk h M _ G9.out.hash HM.out (HK.out.below G9.out.bel HK.out.lt)).mono ?_
          rintro e w10 ⟨rfl, hb10⟩
          rw [HDG.out]
          have G10 := Lib.hid (G9.out.next' hb10)
          clear hb10 G9
          go_wp2
          go_roundw
          case rel => exact ⟨k + 1, by omega, by go_num, by rw [eM.out]; exact G10.out⟩
          case measure => simp [intOf]; omega
    · have q1 : ¬ ((k : Int) < (m : Int)) := by omega
      have ek : (zss.take k).flatten = zss.flatten := by
        have e : k = zss.length := by rw [← em.out]; omega
        rw [e, List.take_length]
      rw [ek] at hg
      have G := Lib.hid hg
      clear hg hmlen
      have hlF : zss.flatten.length + 72 ≤ 1125899906842624 := by omega
      have HLF := Lib.hid hlF
      have hd : (Sha.sum zss.flatten).length = 32 := Sha.sum_length _
      have e1 := eq_digest _ hd
      clear hlF hd ek
      generalize hdg : Sha.sum zss.flatten = dg at *
      have HDG := Lib.hid hdg
      clear hdg
      go_wp2_with fail
      refine (new_walk _).mono ?_
      rintro e w3 ⟨g, hg1, rfl, hg2, hb3⟩
      have G3 := Lib.hid (G.out.next' hb3)
      have H3 := Lib.hid hg2
      have hgh : h ≠ g := by have := G.out.hash.lt; omega
      have hgw : w.heap.size ≤ g := by have := G.out.bel.size; omega
      have hKg : 0 ≠ g := by have := HK.out.lt; omega
      clear hg1 hg2 hb3 G
      have hPA : Hid (PartsAt w3 g (.slice a m cap) zss) := by
        have := (HV.out.at hgw).upd (Upd.of_below (b := g) G3.out.bel (Nat.le_refl _))
        exact this
      go_wp2_with fail
      refine (write_walk g [] zss _ _ H3.out hPA.out (by have := HLF.out; rw [List.length_nil]; omega) (HK.out.below G3.out.bel HK.out.lt) hKg).mono ?_
      rintro e w4 ⟨rfl, hh4, hu4⟩
      have H4 : Hid (HashIs w4 g zss.flatten) := by unfold Hid; simpa using hh4
      have P4 := Lib.hid (G3.out.hash.upd hu4 hgh)
      have BEL4 := Lib.hid (hu4.below G3.out.bel hgw G3.out.bel.size)
      clear hh4 hu4 G3 H3 hPA
      go_wp2_with fail
      refine (hsum_walk g zss.flatten _ H4.out HLF.out (HK.out.below BEL4.out HK.out.lt)).mono ?_
      rintro e w5 ⟨rfl, hb5⟩
      rw [HDG.out]
      have P5 := Lib.hid (P4.out.below hb5 P4.out.lt)
      have BEL5 := Lib.hid (BEL4.out.trans (hb5.mono BEL4.out.size))
      clear hb5 P4 BEL4 H4
      go_wp2_with fail
      refine (hsum_walk h zss.flatten _ P5.out HLF.out (HK.out.below BEL5.out HK.out.lt)).mono ?_
      rintro e w6 ⟨rfl, hb6⟩
      rw [HDG.out]
      have BEL6 := Lib.hid (BEL5.out.trans (hb6.mono BEL5.out.size))
      clear hb6 P5 BEL5
      go_wp2
      go_ret
      exact ⟨rfl, BEL6.out⟩
end Go.Proofs.YtkfemngknmnnmaaDoor
