/- package tag's Unframe tells the parts of a frame, and of no other bytes. -/
import Derived.Test.YtoeilaedpibboaaDoorTagUnf
import Derived.Test.YtoeilaedpibboaaDoorTagSet
import Derived.Lib.EndianBits
import Derived.Deep.AppendLies
namespace Go.Proofs.YtoeilaedpibboaaDoor
open Go.RowKit
set_option maxRecDepth 100000

/-- Four bytes as a number. -/
def numB (zs : List Int) : Nat := (zs.getD 0 0 + 256 * zs.getD 1 0 + 65536 * zs.getD 2 0 + 16777216 * zs.getD 3 0).toNat
theorem wraps_i64 (n : Int) (h₀ : 0 ≤ n) (h₁ : n < 2 ^ 62) : IntKind.i64.wrap n = n := IntWalk.i64_in _ (by omega)
theorem back4_num (zs : List Int) (hb : isBytes zs) : back4L zs = (numB zs : Int) := by
  obtain ⟨l0, u0⟩ := get_byte hb 0
  obtain ⟨l1, u1⟩ := get_byte hb 1
  obtain ⟨l2, u2⟩ := get_byte hb 2
  obtain ⟨l3, u3⟩ := get_byte hb 3
  unfold back4L numB back4
  generalize zs.getD 0 0 = z0 at *
  generalize zs.getD 1 0 = z1 at *
  generalize zs.getD 2 0 = z2 at *
  generalize zs.getD 3 0 = z3 at *
  rw [bits_join_low .i64 62 (by decide) wraps_i64 8 z0 (z1 * 256) l0 (by omega) (by omega) (by omega) (by omega) (by omega),
    bits_join_low .i64 62 (by decide) wraps_i64 16 _ (z2 * 65536) (by omega) (by omega) (by omega) (by omega) (by omega) (by omega),
    bits_join_low .i64 62 (by decide) wraps_i64 24 _ (z3 * 16777216) (by omega) (by omega) (by omega) (by omega) (by omega) (by omega)]
  omega
theorem numB_le (zs : List Int) (hb : isBytes zs) : numB zs ≤ 4294967295 := by
  obtain ⟨l0, u0⟩ := get_byte hb 0
  obtain ⟨l1, u1⟩ := get_byte hb 1
  obtain ⟨l2, u2⟩ := get_byte hb 2
  obtain ⟨l3, u3⟩ := get_byte hb 3
  unfold numB
  omega
def cutP (zs : List Int) : Option (List Int × List Int) := if zs.length < 4 then none else if zs.length - 4 < numB zs then none else some ((zs.drop 4).take (numB zs), (zs.drop 4).drop (numB zs))
def unfTo : Nat → List Int → Option (List (List Int) × List Int)
  | 0, zs => some ([], zs)
  | n + 1, zs => match cutP zs with
    | none => none
    | some (p, r) => (unfTo n r).map fun q => (p :: q.1, q.2)
theorem unfTo_none (n : Nat) (zs : List Int) (h : cutP zs = none) : unfTo (n + 1) zs = none := by rw [unfTo, h]
theorem unfTo_some (n : Nat) (zs p r : List Int) (h : cutP zs = some (p, r)) : unfTo (n + 1) zs = (unfTo n r).map fun q => (p :: q.1, q.2) := by rw [unfTo, h]
def unfEnd : Option (List (List Int) × List Int) → Option (List (List Int))
  | none => none
  | some (ps, r) => if r = [] then some ps else none
/-- The parts whose frame some bytes are. -/
def unframeL (zs : List Int) : Option (List (List Int)) := if zs.length < 4 then none else unfEnd (unfTo (numB zs) (zs.drop 4))
def UnfPost (o : Option (List (List Int))) (w : World) (e : Ending) (w' : World) : Prop :=
  match o with
  | none => e = .returned (.tuple #[.slice none 0 0, .bool false]) ∧ Below w.heap.size w w'
  | some ps => ∃ v, e = .returned (.tuple #[v, .bool true]) ∧ PartsIn w' v ps ∧ Below w.heap.size w w'
/-- A slice of slices of the call's own, and the bytes of each in no block of it. -/
def PartsOwn (w : World) (base : Nat) (pv : Value) (pss : List (List Int)) : Prop :=
  ∃ psv : List Value, psv.length = pss.length ∧ w.ownsRow base 36 1 pv pss.length psv ∧ ∀ (i : Nat) (v : Value) (zs : List Int), psv[i]? = some v → pss[i]? = some zs → BytesIn w v zs ∧ (∀ g, pv.ownBlock = some g → BytesAt w g v zs) ∧ NilOk v ∧ zs.length ≤ 1000000
theorem PartsOwn.below {w w' : World} {base : Nat} {pv : Value} {pss : List (List Int)} (h : PartsOwn w base pv pss) (hb : Below w.heap.size w w') : PartsOwn w' base pv pss := by
  obtain ⟨psv, h1, h2, h3⟩ := h
  refine ⟨psv, h1, h2.kept (row := none) ⟨hb.os, hb.tape, hb.output, hb.size, fun k hk _ => hb.block k hk⟩ (by cases h : pv.ownBlock with | none => exact .inl rfl | some g => exact .inr (by simp)), fun i v zs hv hz => ?_⟩
  obtain ⟨h4, h5, h6, h7⟩ := h3 i v zs hv hz
  exact ⟨h4.below hb (Nat.le_refl _), fun g hg => (h5 g hg).below hb (Nat.le_refl _), h6, h7⟩
theorem PartsOwn.in {w : World} {base : Nat} {pv : Value} {pss : List (List Int)} (h : PartsOwn w base pv pss) (hl : pss.length ≤ 1000000) : PartsIn w pv pss := by
  obtain ⟨psv, h1, ⟨h2, h3⟩, h4⟩ := h
  rcases h3 with ⟨rfl, hn0⟩ | ⟨g, cap, cur, rfl, _, hg, hc, _, hs, ht⟩
  · refine ⟨none, 0, psv, by rw [hn0], h1, by omega, fun h => by omega, fun k v zs hv hz => ?_⟩
    obtain ⟨h5, _, h6, h7⟩ := h4 k v zs hv hz
    exact ⟨h5, h6, by omega⟩
  · refine ⟨some ⟨g, 0, none⟩, cap, psv, rfl, h1, by omega, fun _ => ⟨g, 0, rfl, (Array.getElem?_eq_some_iff.1 hg).1, fun j v hv => ?_⟩, fun k v zs hv hz => ?_⟩
    · rw [cell_of_row w g (0 + j) cur 36 (0, 0) hg, Nat.zero_add]
      rw [← ht, List.getElem?_take] at hv
      split at hv
      · simpa using hv
      · cases hv
    · obtain ⟨h5, _, h6, h7⟩ := h4 k v zs hv hz
      exact ⟨h5, h6, by omega⟩
theorem isBytes.drop {zs : List Int} (h : isBytes zs) (n : Nat) : isBytes (zs.drop n) := fun x hx => h x (List.mem_of_mem_drop hx)
theorem unf_map_assoc (o : Option (List (List Int) × List Int)) (pss : List (List Int)) (p : List Int) : (o.map fun q => (p :: q.1, q.2)).map (fun q => (pss ++ q.1, q.2)) = o.map fun q => ((pss ++ [p]) ++ q.1, q.2) := by
  cases o with
  | none => rfl
  | some q => simp
/-- Bytes that lie in no block of a row. -/
def Away (w : World) (row : Option Nat) (v : Value) (zs : List Int) : Prop :=
  ∃ a cap, v = .slice a zs.length cap ∧ zs.length ≤ cap ∧ (0 < zs.length → ∃ pb po, a = some ⟨pb, po, none⟩ ∧ pb < w.heap.size ∧ some pb ≠ row ∧ w.rangeAt pb po (ints .u8 zs))
theorem away_of {w : World} {row : Option Nat} {v : Value} {zs : List Int} (h1 : BytesIn w v zs) (h2 : ∀ g, row = some g → BytesAt w g v zs) : Away w row v zs := by
  cases row with
  | none =>
    obtain ⟨a, cap, e, hc, hp⟩ := h1
    refine ⟨a, cap, e, hc, fun h => ?_⟩
    obtain ⟨pb, po, h3, h4, h5⟩ := hp h
    exact ⟨pb, po, h3, h4, by simp, h5⟩
  | some g =>
    obtain ⟨a, cap, e, hc, hp⟩ := h2 g rfl
    refine ⟨a, cap, e, hc, fun h => ?_⟩
    obtain ⟨pb, po, h3, h4, h5, h6⟩ := hp h
    exact ⟨pb, po, h3, h5, by simp; exact h4, h6⟩
theorem Away.grown {w w5 w6 : World} {row : Option Nat} {v : Value} {zs : List Int} (h : Away w row v zs) (o : Obj) (h5 : w5 = w.alloc o) (hg : w5.grownBy w6 row) {g' : Nat} (hat : row = some g' ∨ g' = w.heap.size + 1) : BytesIn w6 v zs ∧ ∀ g, some g' = some g → BytesAt w6 g v zs := by
  subst h5
  obtain ⟨a, cap, e, hc, hp⟩ := h
  have hkey : 0 < zs.length → ∃ pb po, a = some ⟨pb, po, none⟩ ∧ pb < w6.heap.size ∧ pb ≠ g' ∧ w6.rangeAt pb po (ints .u8 zs) := fun h => by
    obtain ⟨pb, po, h3, h4, h6, h7⟩ := hp h
    have hlt : pb < (w.alloc o).heap.size := by simp; omega
    refine ⟨pb, po, h3, Nat.lt_of_lt_of_le hlt hg.size, ?_, fun j u hu => ?_⟩
    · rcases hat with hat | hat
      · rintro rfl; exact h6 hat.symm
      · omega
    · rw [World.cell?_of_block (w := w.alloc o) (a := ⟨pb, po + j, none⟩) (hg.block pb hlt h6), World.cell?_of_block (w := w) (a := ⟨pb, po + j, none⟩) (Below.heap_alloc w o pb h4)]
      exact h7 j u hu
  refine ⟨⟨a, cap, e, hc, fun h => ?_⟩, fun g hg' => ⟨a, cap, e, hc, fun h => ?_⟩⟩
  · obtain ⟨pb, po, h3, h4, _, h7⟩ := hkey h
    exact ⟨pb, po, h3, h4, h7⟩
  · obtain ⟨pb, po, h3, h4, h5, h7⟩ := hkey h
    obtain rfl := Option.some.inj hg'
    exact ⟨pb, po, h3, h5, h4, h7⟩
theorem unframe_short (a : Option Addr) (len cap : Nat) (h : len < 4) (w : World) : Calls Tryd.prog 19 #[.slice a len cap] w (UnfPost none w) := by
  go_enter Tryd.func19, Tryd.ntmps19
  go_wp2_with fail
  refine (cutnum_no a len cap h _).mono ?_
  rintro e w1 ⟨rfl, rfl⟩
  go_wp2
  go_ret2
  exact ⟨rfl, Below.refl _ _⟩
set_option maxHeartbeats 1000000 in
theorem unframe_long (pb po len cap : Nat) (zs : List Int) (hl : zs.length = len) (hb : isBytes zs) (h4 : 4 ≤ len) (hlc : len ≤ cap) (hbig : len ≤ 1000000) (w : World) (hp : pb < w.heap.size) (hr : w.rangeAt pb po (ints .u8 zs)) :
    Calls Tryd.prog 19 #[.slice (some ⟨pb, po, none⟩) len cap] w (UnfPost (unfEnd (unfTo (numB zs) (zs.drop 4))) w) := by
  have HR := Lib.hid hr
  have HL := Lib.hid hl
  have HB := Lib.hid hb
  have HNB := Lib.hid (back4_num zs hb)
  have HDL : Hid ((zs.drop 4).length = len - 4) := by unfold Hid; rw [List.length_drop, hl]
  clear hr hl hb
  obtain ⟨i0, hi, hz0, hz1, hz2⟩ := info_parts infoBytes3
  have HI := Lib.hid hi
  have HZ0 := Lib.hid hz0
  have HZ1 := Lib.hid hz1
  have HZ2 := Lib.hid hz2
  clear hi hz0 hz1 hz2
  obtain ⟨tgt, htgt⟩ : ∃ t, Hid (unfTo (numB zs) (zs.drop 4) = t) := ⟨_, rfl⟩
  rw [htgt.out]
  obtain ⟨N, hN⟩ : ∃ N, Hid (numB zs = N) := ⟨_, rfl⟩
  rw [hN.out] at HNB htgt
  have hNb : (N : Int) ≤ 4294967295 := by have := numB_le zs HB.out; rw [hN.out] at this; omega
  go_enter Tryd.func19, Tryd.ntmps19
  go_wp2_with fail
  refine (cutnum_yes pb po len cap zs HL.out HB.out h4 hlc hbig _ HR.out).mono ?_
  rintro e w1 ⟨⟨p1, rfl, hr1⟩, nd, rfl⟩
  rw [HNB.out]
  have HR1 := Lib.hid hr1
  clear hr1
  have hlr : Hid (len - 4 ≤ cap - 4) := by unfold Hid; omega
  rw [← HDL.out] at hlr ⊢
  generalize cap - 4 = cr at *
  have HB4 := Lib.hid (HB.out.drop 4)
  generalize zs.drop 4 = r0 at *
  go_wp2
  go_loopw [18, 5, 7, 6, 8] (fun i rv pv _ _ wr => ∃ (k : Nat) (pss : List (List Int)) (rest : List Int) (p2 c : Nat), k ≤ N ∧ i = .int .i64 (k : Int) ∧ rv = .slice (some ⟨pb, p2, none⟩) rest.length c ∧ rest.length ≤ c ∧ rest.length + 4 * k ≤ 1000000 ∧ isBytes rest ∧ w.rangeAt pb p2 (ints .u8 rest) ∧ pss.length = k ∧
    PartsOwn wr w.heap.size pv pss ∧ Below w.heap.size w wr ∧ (unfTo (N - k) rest).map (fun q => (pss ++ q.1, q.2)) = tgt) (fun i _ _ _ _ _ => N - (intOf i).toNat)
  case atStart =>
    refine ⟨0, [], r0, p1, cr, by omega, rfl, rfl, hlr.out, by have := HDL.out; omega, HB4.out, HR1.out, rfl, ⟨[], rfl, ⟨rfl, .inl ⟨rfl, rfl⟩⟩, fun i v zs h => by simp at h⟩, (Below.refl _ _).trans ((below_drewN w nd).mono (Nat.le_refl _)), ?_⟩
    rw [Nat.sub_zero, htgt.out]
    cases tgt <;> simp
  case round =>
    obtain ⟨k, pss, rest, p2, c, hk, rfl, rfl, hrc, hrl, hrb, hrr, hpl, hpo, hbel, hmap⟩ := hrel
    have HRB := Lib.hid hrb
    have HRR := Lib.hid hrr
    have HPL := Lib.hid hpl
    have HPO := Lib.hid hpo
    have HBE := Lib.hid hbel
    have HMP := Lib.hid hmap
    have HRW : Hid (Hid (rest.length = rest.length)) := rfl
    clear hrb hrr hpl hpo hbel hmap HRW
    obtain ⟨psv0, _, hown0, _⟩ := id HPO.out
    obtain ⟨L, hL⟩ : ∃ L, Hid (L = rest.length) := ⟨_, rfl⟩
    rw [← hL.out] at hrc hrl ⊢
    by_cases hlt : k < N
    · have q1 : (k : Int) < (N : Int) := by omega
      by_cases h4 : L < 4
      · -- too short
        have HT : Hid (tgt = none) := by
          have h1 := HMP.out
          obtain ⟨m, hm⟩ : ∃ m, N - k = m + 1 := ⟨N - k - 1, by omega⟩
          rw [hm, unfTo, cutP, if_pos (by rw [← hL.out]; exact h4)] at h1
          exact h1.symm
        rw [HT.out]
        clear hown0
        go_wp2_with fail
        refine (cutpart_short _ L c h4 _).mono ?_
        rintro e w3 ⟨rfl, rfl⟩
        go_wp2
        go_ret2
        exact ⟨rfl, HBE.out⟩
      · have hrw : Hid (wr.rangeAt pb p2 (ints .u8 rest)) := fun j v hv => by rw [HBE.out.cell (p := ⟨pb, p2 + j, none⟩) hp]; exact HRR.out j v hv
        have hbn := Lib.hid (back4_num rest HRB.out)
        have HUN : Hid ((unfTo (N - k - 1 + 1) rest).map (fun q => (pss ++ q.1, q.2)) = tgt) := by
          have h1 := HMP.out
          rw [show N - k = N - k - 1 + 1 by omega] at h1
          exact h1
        obtain ⟨n, hn⟩ : ∃ n, Hid (numB rest = n) := ⟨_, rfl⟩
        rw [hn.out] at hbn
        by_cases hmuch : L - 4 < n
        · have HT : Hid (tgt = none) := by
            have h1 := HUN.out
            rw [unfTo_none _ _ (by rw [cutP, if_neg (by rw [← hL.out]; exact h4), if_pos (by rw [← hL.out, hn.out]; exact hmuch)])] at h1
            exact h1.symm
          rw [HT.out]
          clear hown0
          go_wp2_with fail
          refine (cutpart_much pb p2 L c rest hL.out.symm HRB.out (by omega) hrc (by omega) n hbn.out hmuch _ hrw.out).mono ?_
          rintro e w3 ⟨rfl, n3, rfl⟩
          go_wp2
          go_ret2
          exact ⟨rfl, HBE.out.trans ((below_drewN wr n3).mono HBE.out.size)⟩
        · have HCP : Hid (((unfTo (N - (k + 1)) ((rest.drop 4).drop n)).map fun q => ((pss ++ [(rest.drop 4).take n]) ++ q.1, q.2)) = tgt) := by
            have h1 := HUN.out
            rw [unfTo_some _ _ ((rest.drop 4).take n) ((rest.drop 4).drop n) (by rw [cutP, if_neg (by rw [← hL.out]; exact h4), if_neg (by rw [← hL.out, hn.out]; exact hmuch), hn.out])] at h1
            unfold Hid
            rw [← h1, unf_map_assoc, show N - (k + 1) = N - k - 1 by omega]
          clear hown0
          go_wp2_with fail
          refine (cutpart_yes pb p2 L c n rest hL.out.symm HRB.out (by omega) hrc (by omega) hbn.out (by omega) _ hrw.out).mono ?_
          rintro e w3 ⟨⟨q1', q2', c1, c2, rfl, hc1, hc2, hra, hrb2⟩, n3, rfl⟩
          obtain ⟨part, hpart⟩ : ∃ p, Hid (p = (rest.drop 4).take n) := ⟨_, rfl⟩
          obtain ⟨nrest, hnrest⟩ : ∃ p, Hid (p = (rest.drop 4).drop n) := ⟨_, rfl⟩
          rw [← hpart.out] at hra HCP
          rw [← hnrest.out] at hrb2 HCP
          have hpn : part.length = n := by rw [hpart.out, List.length_take, List.length_drop, ← hL.out]; omega
          have hnr : nrest.length = L - 4 - n := by rw [hnrest.out, List.length_drop, List.length_drop, ← hL.out]
          have HNRB : Hid (isBytes nrest) := by unfold Hid; rw [hnrest.out]; exact (HRB.out.drop 4).drop n
          have HRA := Lib.hid hra
          have HRN : Hid (w.rangeAt pb q2' (ints .u8 nrest)) := fun j v hv => by
            have := hrb2 j v hv
            rw [HBE.out.cell (p := ⟨pb, q2' + j, none⟩) hp] at this
            exact this
          have HPN := Lib.hid hpn
          have HNR := Lib.hid hnr
          have BEL3 : Hid (Below w.heap.size w (wr.drewN n3)) := HBE.out.trans ((below_drewN wr n3).mono HBE.out.size)
          have PO3 : Hid (PartsOwn (wr.drewN n3) w.heap.size _ pss) := HPO.out.below (below_drewN wr n3)
          have hplt : pb < wr.heap.size := Nat.lt_of_lt_of_le hp HBE.out.size
          clear hra hrb2 hpn hnr hrw hbn HUN HMP hpart hnrest
          have hcl := bclone_walk pb q1' n c1 part HPN.out hc1 (by omega) (wr.drewN n3) hplt HRA.out
          generalize wr.drewN n3 = w3 at *
          go_wp2_with fail
          refine hcl.mono ?_
          rintro e w4 ⟨nv, rfl, hnv, hb4⟩
          obtain ⟨na, nc, rfl, -⟩ := id (owns_bytes hnv)
          have BEL4 := Lib.hid (BEL3.out.trans (hb4.mono BEL3.out.size))
          have PO4 := Lib.hid (PO3.out.below hb4)
          have NV := Lib.hid hnv
          have hw34 := hb4.size
          have hww3 := BEL3.out.size
          have HPVL : Hid (∀ g, Value.ownBlock _ = some g → g < w3.heap.size) := fun g hg => by obtain ⟨_, _, ho, _⟩ := PO3.out; exact (ho.lt g hg).2
          have NV_nil0 := owns_nilok hnv
          clear hnv hb4 hcl PO3 BEL3 HPO HBE HRR HRA
          rw [HPN.out] at NV_nil0 ⊢
          have NV_nil := Lib.hid NV_nil0
          clear NV_nil0
          have NV4 : Hid (w4.ownsRow w3.heap.size 5 1 (.slice na n nc) part.length (ints .u8 part)) := by have h := NV.out; rw [HPN.out] at h; unfold Hid; rw [HPN.out]; exact h
          obtain ⟨psv, hpv1, hpv2, hpv3⟩ := PO4.out
          have OW5 : Hid ((w4.alloc (.cells #[.slice na n nc] 36)).ownsRow w.heap.size 36 1 _ pss.length psv) := hpv2.alloc _
          have HBI5 : Hid (BytesIn (w4.alloc (.cells #[.slice na n nc] 36)) (.slice na n nc) part) := (owns_bytes NV4.out).below ((Below.refl w4.heap.size w4).alloc (Nat.le_refl _) _) (Nat.le_refl _)
          have HK1 : Hid (pss.length ≤ 1000000) := by have := HPL.out; unfold Hid; omega
          have HM1 : Hid (pss.length + 1 ≤ maxLen) := by have := HK1.out; unfold Hid maxLen; omega
          have HM2 : Hid ((pss.length + 1) * 24 ≤ 140737488355328) := by have := HK1.out; unfold Hid; omega
          have HSZ5 : Hid (w.heap.size ≤ (w4.alloc (.cells #[.slice na n nc] 36)).heap.size) := by have := BEL4.out.size; unfold Hid; simp; omega
          have HC5 : Hid (∀ j u, [Value.slice na n nc][j]? = some u → (w4.alloc (.cells #[.slice na n nc] 36)).cell? ((⟨w4.heap.size, 0, none⟩ : Addr).add j) = some u) := fun j u hj => by
            cases j with
            | zero => simp at hj; subst hj; simp [Addr.add]
            | succ j => simp at hj
          have HO5 : Hid (∀ u ∈ [Value.slice na n nc], u.oneCell' = true) := fun u hu => by simp at hu; subst hu; rfl
          go_wp2_with (with_reducible refine wpList_append_lies _ (o := ⟨some 32, _, _, _, _, _⟩) ?d1 (.tmp 28) (.tmp 31) 38 ?d2 w.heap.size 36 i0 _ 1 24 Tryd.underlying38 HI.out HZ0.out HZ1.out HZ2.out ?d3 ?d4 _ pss.length psv ?d5 OW5.out ⟨w4.heap.size, 0, none⟩ 1 1 [.slice na n nc] ?d6 ?d7 HC5.out HO5.out ?d8 HM1.out HM2.out HSZ5.out _ rfl ?_)
          case d1 => rfl
          case d2 => rfl
          all_goals try (case d3 => rfl)
          all_goals try (case d4 => decide)
          all_goals try (case d5 => rfl)
          all_goals try (case d6 => rfl)
          all_goals try (case d7 => rfl)
          all_goals try (case d8 => decide)
          intro g' cap' w6 ho6 hg6 hat6 hlt6
          have HB6 : Hid (Below w.heap.size w w6) := (BEL4.out.alloc BEL4.out.size _).grown hg6 HSZ5.out (fun j hj => by have := (OW5.out.lt j hj).1; omega)
          have PO6 : Hid (PartsOwn w6 w.heap.size (.slice (some ⟨g', 0, none⟩) (pss.length + 1) cap') (pss ++ [part])) := by
            refine ⟨psv ++ [.slice na n nc], by rw [List.length_append, List.length_append, hpv1]; rfl, by rw [List.length_append]; exact ho6, fun i v zs' hv hz => ?_⟩
            by_cases hil : i < pss.length
            · rw [List.getElem?_append_left (by rw [hpv1]; exact hil)] at hv
              rw [List.getElem?_append_left hil] at hz
              obtain ⟨b1, b2, b3, b4⟩ := hpv3 i v zs' hv hz
              obtain ⟨d1, d2⟩ := (away_of b1 b2).grown _ rfl hg6 hat6
              exact ⟨d1, d2, b3, b4⟩
            · have hi1 := (List.getElem?_eq_some_iff.1 hz).1
              rw [List.length_append] at hi1
              have hie : i = pss.length := by simp at hi1; omega
              subst hie
              rw [List.getElem?_append_right (Nat.le_refl _)] at hz
              rw [List.getElem?_append_right (by rw [hpv1]; exact Nat.le_refl _), hpv1] at hv
              simp at hv hz
              subst hv
              subst hz
              have haw : Away w4 _ (.slice na n nc) part := away_of (owns_bytes NV4.out) (fun g hg => by
                obtain ⟨a', c', e', hc', hp'⟩ := owns_bytes NV4.out
                refine ⟨a', c', e', hc', fun h => ?_⟩
                obtain ⟨pb', po', f1, f2, f3⟩ := hp' h
                have h1 := owns_row NV4.out pb' (by rw [e', f1]; rfl)
                have h2 := HPVL.out g hg
                exact ⟨pb', po', f1, by omega, f2, f3⟩)
              obtain ⟨d1, d2⟩ := haw.grown _ rfl hg6 hat6
              exact ⟨d1, d2, NV_nil.out, by rw [HPN.out]; omega⟩
          clear ho6 hg6 hat6 hlt6 hpv1 hpv2 hpv3 OW5 PO4 NV NV4 HC5 BEL4 HBI5
          go_wp2
          refine ⟨⟨k + 1, pss ++ [part], nrest, q2', c2, by omega, by go_num, by rw [HNR.out], by rw [HNR.out]; exact hc2, by rw [HNR.out]; omega, HNRB.out, HRN.out, by rw [List.length_append, HPL.out]; rfl, PO6.out, HB6.out, HCP.out⟩, by simp [intOf]; omega⟩
    · have q1 : ¬ (k : Int) < (N : Int) := by omega
      have HT : Hid (tgt = some (pss, rest)) := by
        have h1 := HMP.out
        rw [show N - k = 0 by omega, unfTo] at h1
        unfold Hid
        rw [← h1]; simp
      by_cases hr0 : L = 0
      · have q2 : ¬ (0 : Int) < (L : Int) := by omega
        have q3 : decide ((0 : Int) < (L : Int)) = false := by simp; omega
        have HT2 : Hid (unfEnd tgt = some pss) := by
          have : rest = [] := List.eq_nil_of_length_eq_zero (by rw [← hL.out]; exact hr0)
          unfold Hid; rw [HT.out, unfEnd, if_pos this]
        have HPI := Lib.hid (HPO.out.in (by have := HPL.out; omega))
        clear hown0
        go_wp2
        go_ret2
        show UnfPost (unfEnd tgt) w _ _
        rw [HT2.out]
        exact ⟨_, rfl, HPI.out, HBE.out⟩
      · have q2 : (0 : Int) < (L : Int) := by omega
        have HT2 : Hid (unfEnd tgt = none) := by
          have : rest ≠ [] := fun h => hr0 (by rw [hL.out, h]; rfl)
          unfold Hid; rw [HT.out, unfEnd, if_neg this]
        clear hown0
        go_wp2
        go_ret2
        show UnfPost (unfEnd tgt) w _ _
        rw [HT2.out]
        exact ⟨rfl, HBE.out⟩
theorem unframe_walk (v : Value) (zs : List Int) (w : World) (hv : BytesIn w v zs) (hb : isBytes zs) (hl : zs.length ≤ 1000000) : Calls Tryd.prog 19 #[v] w (UnfPost (unframeL zs) w) := by
  obtain ⟨a, cap, rfl, hc, hp⟩ := hv
  by_cases h : zs.length < 4
  · rw [unframeL, if_pos h]; exact unframe_short a _ cap h w
  · obtain ⟨pb, po, rfl, h1, h2⟩ := hp (by omega)
    rw [unframeL, if_neg h]
    exact unframe_long pb po _ cap zs rfl hb (by omega) hc hl w h1 h2
theorem unframe_ab : unframeL (frameL [[97, 98]]) = some [[97, 98]] := by decide +kernel
end Go.Proofs.YtoeilaedpibboaaDoor
