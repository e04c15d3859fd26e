/- ShaForks answers true. -/
import Derived.Test.YtkfemngknmnnmaaDoorShaApp
namespace Go.Proofs.YtkfemngknmnnmaaDoor
open Go.RowKit

theorem eq_digest (d : List Int) (hd : d.length = 32) (w : World) : (Op.equalIn 10000 29 (.agg (ints .u8 d).toArray) (.agg (ints .u8 d).toArray)).run Tryd.prog w = .ok true w := by
  have := run_equalIn_ints w 9998 Tryd.underlying29 Tryd.underlying5 sizeByte d d hd hd
  rw [show decide (d = d) = true from decide_eq_true rfl] at this
  exact this

/-- Two hashes, each of its own bytes, in a world that has grown out of w. -/
structure Twins (w w' : World) (h f : Nat) (m1 m2 : List Int) : Prop where
  p : HashIs w' h m1
  q : HashIs w' f m2
  ne : h ≠ f
  bel : Below w.heap.size w w'
  hw : w.heap.size ≤ h
  fw : w.heap.size ≤ f
theorem Twins.next {w w1 w2 : World} {h f : Nat} {m1 m2 : List Int} (t : Twins w w1 h f m1 m2) (hb : Below w1.heap.size w1 w2) : Twins w w2 h f m1 m2 :=
  ⟨t.p.below hb t.p.lt, t.q.below hb t.q.lt, t.ne, t.bel.trans (hb.mono t.bel.size), t.hw, t.fw⟩

theorem Twins.next2 {B : Nat} {w w1 w2 : World} {h f : Nat} {m1 m2 : List Int} (t : Twins w w1 h f m1 m2) (hb : Below B w1 w2) (hB : w.heap.size ≤ B) (hh : h < B) (hf : f < B) : Twins w w2 h f m1 m2 :=
  ⟨t.p.below hb hh, t.q.below hb hf, t.ne, t.bel.trans (hb.mono hB), t.hw, t.fw⟩
theorem owns_row {w : World} {base n : Nat} {v : Value} {xs : List Value} (h : w.ownsRow base 5 1 v n xs) : ∀ k, v.ownBlock = some k → base ≤ k := by
  obtain ⟨_, h2⟩ := h
  rcases h2 with ⟨rfl, _⟩ | ⟨g, cap, cur, rfl, hg, _⟩
  · intro k hk; cases hk
  · intro k hk
    obtain rfl : g = k := by simpa [Value.ownBlock] using hk
    exact hg
theorem BytesIn.below2 {B : Nat} {w w' : World} {v : Value} {zs : List Int} (h : BytesIn w v zs) (hb : Below B w w') (hB : w.heap.size ≤ B) : BytesIn w' v zs := h.below hb hB
set_option maxHeartbeats 2000000 in
set_option maxRecDepth 100000 in
theorem forks_main (ua ub uc : Value) (za zb zc : List Int) (w : World) (ha : BytesIn w ua za) (hb : BytesIn w ub zb) (hc : BytesIn w uc zc) (na : NilOk ua) (nb : NilOk ub) (nc : NilOk uc)
    (la : za.length ≤ 1000) (lb : zb.length ≤ 1000) (lc : zc.length ≤ 1000) (hK : KW w) :
    Calls Tryd.prog 5 #[ua, ub, uc] w fun e w' => e = .returned (.bool true) ∧ Below w.heap.size w w' := by
  obtain ⟨aa, ca, rfl, _⟩ := id ha
  obtain ⟨ab, cb, rfl, _⟩ := id hb
  obtain ⟨ac, cc, rfl, _⟩ := id hc
  have HA := Lib.hid ha
  have HB := Lib.hid hb
  have HC := Lib.hid hc
  have NA := Lib.hid na
  have NB := Lib.hid nb
  have NC := Lib.hid nc
  have HK := Lib.hid hK
  have la' : ¬ ((1000 : Int) < (za.length : Int)) := by omega
  have lb' : ¬ ((1000 : Int) < (zb.length : Int)) := by omega
  have lc' : ¬ ((1000 : Int) < (zc.length : Int)) := by omega
  clear ha hb hc na nb nc hK
  go_enter Tryd.func5, Tryd.ntmps5
  go_wp2_with fail
  refine (alive_walk _ HK.out).mono ?_
  rintro e w1 ⟨rfl, hb1⟩
  have BEL1 := Lib.hid hb1
  clear hb1
  go_wp2_with fail
  refine (new_walk _).mono ?_
  rintro e w2 ⟨h, hh1, rfl, hh2, hbel2⟩
  have BEL2 := Lib.hid (BEL1.out.trans (hbel2.mono BEL1.out.size))
  have H2 := Lib.hid hh2
  have hhw : w.heap.size ≤ h := by have := BEL1.out.size; omega
  have hKh : 0 ≠ h := by have := HK.out.lt; omega
  have hlt2 := hh2.lt
  clear hh1 hh2 hbel2 BEL1
  go_wp2_with fail
  have KW2 := Lib.hid (HK.out.below BEL2.out HK.out.lt)
  refine (write_walk h [] [za] _ _ (H2.out.alloc _) (parts_one (Blk.new2 _ _ _ [_] _ rfl rfl) (by omega) (((HA.out.at hhw).upd (Upd.of_below BEL2.out (Nat.le_refl _))).alloc _)) (by simp; omega) (KW2.out.alloc _) hKh).mono ?_
  rintro e w3 ⟨rfl, hh3, hu3⟩
  have BEL3 := Lib.hid (hu3.below (BEL2.out.alloc BEL2.out.size _) hhw (by have := BEL2.out.size; simp; omega))
  have H3 : Hid (HashIs w3 h za) := by unfold Hid; simpa using hh3
  clear hh3 hu3 BEL2 H2 KW2
  go_wp2_with fail
  refine (fork_walk h za _ H3.out).mono ?_
  rintro e w4 ⟨f, hf1, rfl, hf2, hbel4⟩
  have T4 : Hid (Twins w w4 h f za za) := ⟨H3.out.below hbel4 H3.out.lt, hf2, by have := H3.out.lt; omega, BEL3.out.trans (hbel4.mono BEL3.out.size), hhw, by have := BEL3.out.size; omega⟩
  have hKf : 0 ≠ f := by have := HK.out.lt; have := T4.out.fw; omega
  have hlt4 := hf2.lt
  clear hf1 hf2 hbel4 BEL3 H3
  go_wp2_with fail
  have KW4 := Lib.hid (HK.out.below T4.out.bel HK.out.lt)
  refine (write_walk f za [zb] _ _ (T4.out.q.alloc _) (parts_one (Blk.new2 _ _ _ [_] _ rfl rfl) (by omega) (((HB.out.at T4.out.fw).upd (Upd.of_below T4.out.bel (Nat.le_refl _))).alloc _)) (by simp; omega) (KW4.out.alloc _) hKf).mono ?_
  rintro e w5 ⟨rfl, hh5, hu5⟩
  have T5 : Hid (Twins w w5 h f za (za ++ zb)) := ⟨(T4.out.p.alloc _).upd hu5 T4.out.ne, by simpa using hh5, T4.out.ne, hu5.below (T4.out.bel.alloc T4.out.bel.size _) T4.out.fw (by have := T4.out.bel.size; simp; omega), T4.out.hw, T4.out.fw⟩
  have hlt5 := T5.out.p.lt
  clear hh5 hu5 T4 KW4
  go_wp2_with fail
  have KW5 := Lib.hid (HK.out.below T5.out.bel HK.out.lt)
  refine (write_walk h za [zc] _ _ (T5.out.p.alloc _) (parts_one (Blk.new2 _ _ _ [_] _ rfl rfl) (by omega) (((HC.out.at hhw).upd (Upd.of_below T5.out.bel (Nat.le_refl _))).alloc _)) (by simp; omega) (KW5.out.alloc _) hKh).mono ?_
  rintro e w6 ⟨rfl, hh6, hu6⟩
  have T6 : Hid (Twins w w6 h f (za ++ zc) (za ++ zb)) := ⟨by simpa using hh6, (T5.out.q.alloc _).upd hu6 T5.out.ne.symm, T5.out.ne, hu6.below (T5.out.bel.alloc T5.out.bel.size _) T5.out.hw (by have := T5.out.bel.size; simp; omega), T5.out.hw, T5.out.fw⟩
  clear hh6 hu6 T5 KW5
  go_wp2_with fail
  refine (copyb_walk _ za _ (HA.out.below T6.out.bel (Nat.le_refl _)) NA.out (by omega)).mono ?_
  rintro e w7 ⟨x0, rfl, hx0, hbel7⟩
  have X7 := Lib.hid hx0
  have T7 := Lib.hid (T6.out.next hbel7)
  have hsz7 := hbel7.size
  clear hx0 hbel7
  have HB7 := Lib.hid (HB.out.below T7.out.bel (Nat.le_refl _))
  go_wp2_with (with_reducible refine wpList_append_bytes (o := ⟨some 48, _, _, _, _, _⟩) ?a1 (.tmp 46) (.tmp 47) ?a2 w6.heap.size x0 za ?a3 X7.out (.slice ab zb.length cb) zb ?a5 HB7.out NB.out ?a6 ?a7 ?_)
  case a1 => rfl
  case a2 => rfl
  case a3 => rfl
  case a5 => rfl
  case a6 => omega
  case a7 => omega
  intro x w8 hx8 hg8
  have BG8 : Below w6.heap.size w7 w8 := (Below.refl w6.heap.size w7).grown hg8 hsz7 (owns_row X7.out)
  have T8 := Lib.hid (T7.out.next2 BG8 T6.out.bel.size T6.out.p.lt T6.out.q.lt)
  have X8 := Lib.hid (owns_bytes hx8)
  have NX := Lib.hid (owns_nilok hx8)
  clear hx8 hg8 BG8 X7 T7 T6 HB7 hsz7
  go_wp2_with fail
  refine (copyb_walk _ za _ (HA.out.below T8.out.bel (Nat.le_refl _)) NA.out (by omega)).mono ?_
  rintro e w9 ⟨y0, rfl, hy0, hbel9⟩
  have Y9 := Lib.hid hy0
  have T9 := Lib.hid (T8.out.next hbel9)
  have X9 := Lib.hid (X8.out.below hbel9 (Nat.le_refl _))
  have hsz9 := hbel9.size
  clear hy0 hbel9
  have HC9 := Lib.hid (HC.out.below T9.out.bel (Nat.le_refl _))
  go_wp2_with (with_reducible refine wpList_append_bytes (o := ⟨some 52, _, _, _, _, _⟩) ?a1 (.tmp 50) (.tmp 51) ?a2 w8.heap.size y0 za ?a3 Y9.out (.slice ac zc.length cc) zc ?a5 HC9.out NC.out ?a6 ?a7 ?_)
  case a1 => rfl
  case a2 => rfl
  case a3 => rfl
  case a5 => rfl
  case a6 => omega
  case a7 => omega
  intro y w10 hy10 hg10
  have BG10 : Below w8.heap.size w9 w10 := (Below.refl w8.heap.size w9).grown hg10 hsz9 (owns_row Y9.out)
  have T10 := Lib.hid (T9.out.next2 BG10 T8.out.bel.size T8.out.p.lt T8.out.q.lt)
  have Y10 := Lib.hid (owns_bytes hy10)
  have X10 : Hid (BytesIn w10 x (za ++ zb)) := by
    obtain ⟨sa, c, e, h2, h3⟩ := X8.out
    refine ⟨sa, c, e, h2, fun hp => ?_⟩
    obtain ⟨pb, po, e1, h5, _⟩ := h3 hp
    obtain ⟨sa', c', e', _, h3'⟩ := X9.out
    obtain ⟨pb', po', e1', h5', h6'⟩ := h3' hp
    have hs : sa = sa' := by rw [e] at e'; simpa using (Value.slice.inj e').1
    subst hs
    have hpp : pb = pb' ∧ po = po' := by rw [e1] at e1'; simpa using e1'
    obtain ⟨rfl, rfl⟩ := hpp
    exact ⟨pb, po, e1, Nat.lt_of_lt_of_le h5' BG10.size, fun j v hv => by rw [BG10.cell (p := ⟨pb, po + j, none⟩) h5]; exact h6' j v hv⟩
  have hd1 : (Sha.sum (za ++ zb)).length = 32 := Sha.sum_length _
  have hd2 : (Sha.sum (za ++ zc)).length = 32 := Sha.sum_length _
  have e1 := eq_digest _ hd1
  have e2 := eq_digest _ hd2
  have hl1 : (za ++ zb).length + 72 ≤ 1125899906842624 := by rw [List.length_append]; omega
  have hl2 : (za ++ zc).length + 72 ≤ 1125899906842624 := by rw [List.length_append]; omega
  have HL1 := Lib.hid hl1
  have HL2 := Lib.hid hl2
  clear hy10 hg10 BG10 Y9 T9 T8 HC9 hsz9 X8 X9 hd1 hd2 hl1 hl2
  generalize za ++ zb = m1 at *
  generalize za ++ zc = m2 at *
  go_wp2_with fail
  refine (hsum_walk f m1 _ T10.out.q HL1.out (HK.out.below T10.out.bel HK.out.lt)).mono ?_
  rintro e w11 ⟨rfl, hb11⟩
  have T11 := Lib.hid (T10.out.next hb11)
  have X11 := Lib.hid (X10.out.below hb11 (Nat.le_refl _))
  have Y11 := Lib.hid (Y10.out.below hb11 (Nat.le_refl _))
  clear hb11 T10 X10 Y10
  go_wp2_with fail
  refine (sum_walk x m1 _ X11.out HL1.out (HK.out.below T11.out.bel HK.out.lt)).mono ?_
  rintro e w12 ⟨rfl, hb12⟩
  have T12 := Lib.hid (T11.out.next hb12)
  have Y12 := Lib.hid (Y11.out.below hb12 (Nat.le_refl _))
  clear hb12 T11 X11 Y11
  generalize Sha.sum m1 = d1 at *
  go_wp2_with fail
  refine (hsum_walk h m2 _ T12.out.p HL2.out (HK.out.below T12.out.bel HK.out.lt)).mono ?_
  rintro e w13 ⟨rfl, hb13⟩
  have T13 := Lib.hid (T12.out.next hb13)
  have Y13 := Lib.hid (Y12.out.below hb13 (Nat.le_refl _))
  clear hb13 T12 Y12
  go_wp2_with fail
  refine (sum_walk y m2 _ Y13.out HL2.out (HK.out.below T13.out.bel HK.out.lt)).mono ?_
  rintro e w14 ⟨rfl, hb14⟩
  have T14 := Lib.hid (T13.out.next hb14)
  clear hb14 T13 Y13
  generalize Sha.sum m2 = d2 at *
  go_wp2
  go_ret
  exact ⟨rfl, T14.out.bel⟩
theorem forks_big (ua ub uc : Value) (za zb zc : List Int) (w : World) (ha : BytesIn w ua za) (hb : BytesIn w ub zb) (hc : BytesIn w uc zc)
    (h : 1000 < za.length ∨ 1000 < zb.length ∨ 1000 < zc.length) (hK : KW w) :
    Calls Tryd.prog 5 #[ua, ub, uc] w fun e w' => e = .returned (.bool true) ∧ Below w.heap.size w w' := by
  obtain ⟨aa, ca, rfl, -⟩ := ha
  obtain ⟨ab, cb, rfl, -⟩ := hb
  obtain ⟨ac, cc, rfl, -⟩ := hc
  have HK := Lib.hid hK
  clear hK
  have cases3 : ((1000 : Int) < (za.length : Int)) ∨ (¬ ((1000 : Int) < (za.length : Int)) ∧ (1000 : Int) < (zb.length : Int)) ∨ (¬ ((1000 : Int) < (za.length : Int)) ∧ ¬ ((1000 : Int) < (zb.length : Int)) ∧ (1000 : Int) < (zc.length : Int)) := by omega
  clear h
  rcases cases3 with h1 | ⟨h1, h2⟩ | ⟨h1, h2, h3⟩
  all_goals
    go_enter Tryd.func5, Tryd.ntmps5
    go_wp2_with fail
    refine (alive_walk _ HK.out).mono ?_
    rintro e w1 ⟨rfl, hb1⟩
    have BEL1 := Lib.hid hb1
    clear hb1
    go_wp2
    go_ret
    exact ⟨rfl, BEL1.out⟩
end Go.Proofs.YtkfemngknmnnmaaDoor
