/- A hash's Sum is the digest of the bytes that it has taken in, and package sha's Sum that of a slice's bytes; what was there stays as it was. -/
import Derived.Test.YtoeilaedpibboaaDoorGenB
import Derived.Test.YtoeilaedpibboaaDoorShaPad
namespace Go.Proofs.YtoeilaedpibboaaDoor
open Go.RowKit
set_option maxRecDepth 100000

theorem parts_one {w : World} {b q : Nat} {v : Value} {zs : List Int} (hq : Blk w q 36 [v]) (hne : q ≠ b) (hv : BytesAt w b v zs) : PartsAt w b (.slice (some ⟨q, 0, none⟩) 1 1) [zs] :=
  ⟨some ⟨q, 0, none⟩, 1, [v], rfl, rfl, by simp, fun _ => ⟨q, 0, rfl, hne, hq.lt, hq.whole⟩, fun k u us hu hus => by
    cases k with
    | zero => simp at hu hus; subst hu; subst hus; exact hv
    | succ k => simp at hu⟩
theorem BytesAt.below {B : Nat} {w w' : World} {b : Nat} {v : Value} {zs : List Int} (h : BytesAt w b v zs) (hb : Below B w w') (hB : w.heap.size ≤ B) : BytesAt w' b v zs := h.upd (Upd.of_below hb hB)
theorem BytesAt.alloc {w : World} {b : Nat} {v : Value} {zs : List Int} (h : BytesAt w b v zs) (o : Obj) : BytesAt (w.alloc o) b v zs := h.upd ((Upd.refl b w).alloc o)

set_option maxHeartbeats 1000000 in
theorem hsum_walk (b : Nat) (msg : List Int) (w : World) (hb : HashIs w b msg) (hN : msg.length + 72 ≤ 1125899906842624) (hK : KW w) :
    Calls Tryd.prog 37 #[.pointer (some ⟨b, 0, none⟩)] w fun e w' => e = .returned (.agg (ints .u8 (Sha.sum msg)).toArray) ∧ Below w.heap.size w w' := by
  have HB := Lib.hid hb
  have HK := Lib.hid hK
  clear hb hK
  go_enter Tryd.func37, Tryd.ntmps37
  go_wp2_with fail
  refine (fork_walk b msg _ (HB.out.alloc _)).mono ?_
  rintro e w1 ⟨f, hf1, rfl, hf2, hbel1⟩
  have hb1 : HashIs w1 b msg := (HB.out.alloc _).below hbel1 (by have := HB.out.lt; simp; omega)
  obtain ⟨buf, h1, h2, h3⟩ := id hb1
  have c72 : w1.cell? ⟨b, 72, none⟩ = some (.int .i64 (msg.length : Int)) := h3.cell (hcells_c72 (Sha.stateOf_length _) h1)
  have R1 : Hid (Blk w1 w.heap.size 24 (ints .u8 (List.replicate 32 0))) := (Blk.new2 _ _ _ _ _ rfl (by kernel_rfl)).below hbel1 (by simp)
  have BEL1 : Hid (Below w.heap.size w w1) := ((Below.refl _ _).alloc (Nat.le_refl _) _).trans (hbel1.mono (by simp))
  have HF := Lib.hid hf2
  have hfs : w.heap.size + 1 ≤ f := by simpa using hf1
  clear hf1 hf2 hbel1 h1 h2 h3 hb1
  go_wp2_with fail
  refine (pad_some msg.length (by omega) _).mono ?_
  rintro e w2 ⟨p, hp1, rfl, hp2, hbel2⟩
  have R2 := Lib.hid (R1.out.below hbel2 R1.out.lt)
  have HF2 := Lib.hid (HF.out.below hbel2 HF.out.lt)
  have BEL2 := Lib.hid (BEL1.out.trans (hbel2.mono BEL1.out.size))
  have hpf : p ≠ f := by have := HF.out.lt; omega
  have hpr : w.heap.size < p := by have := R1.out.lt; omega
  have BY2 : Hid (BytesAt w2 f (.slice (some ⟨p, 0, none⟩) (Sha.padSize msg.length) (Sha.padSize msg.length)) (Sha.pad msg.length)) := by
    refine ⟨some ⟨p, 0, none⟩, Sha.padSize msg.length, by rw [Sha.pad_length], by rw [Sha.pad_length]; omega, fun _ => ⟨p, 0, rfl, hpf, hp2.lt, hp2.whole⟩⟩
  clear R1 HF BEL1 hp1 hp2 hbel2 c72
  go_wp2_with fail
  have hflt := HF2.out.lt
  have hfl : Hid (msg.length + [Sha.pad msg.length].flatten.length ≤ 1125899906842624) := by
    have := Sha.padSize_bounds msg.length
    unfold Hid; simp [Sha.pad_length]; omega
  have KW2 := Lib.hid (HK.out.below BEL2.out HK.out.lt)
  have hKf : 1 ≠ f := by have := HK.out.lt; omega
  refine (write_walk f msg [Sha.pad msg.length] _ _ (HF2.out.alloc _) (parts_one (Blk.new2 _ _ _ [_] _ rfl rfl) (by omega) (BY2.out.alloc _)) hfl.out (KW2.out.upd ((Upd.refl f w2).alloc _) hKf) hKf).mono ?_
  rintro e w3 ⟨rfl, hh3, hu3⟩
  have hwf : w.heap.size ≠ f := by omega
  have R3 := Lib.hid (hu3.blk (R2.out.alloc _) hwf)
  have BEL3 := Lib.hid (hu3.below (BEL2.out.alloc BEL2.out.size _) (by omega) (by have := BEL2.out.size; simp; omega))
  have hst : (Sha.stateOf (msg ++ [Sha.pad msg.length].flatten)).length = 8 := Sha.stateOf_length _
  have hr8 : Hid (w3.rangeAt f 0 (ints .u32 (Sha.stateOf (msg ++ [Sha.pad msg.length].flatten)))) := by
    obtain ⟨buf, h1, h2, h3⟩ := hh3
    have := h3.range 0 8
    rwa [hcells_take hst] at this
  have hi8 : Hid ((Tryd.prog.info? 68).map (·.size) = some (ints .u32 (Sha.stateOf (msg ++ [Sha.pad msg.length].flatten))).length) := by unfold Hid; rw [ints_length, hst]; exact infoState
  have hsum : Hid (Sha.digest (Sha.stateOf (msg ++ [Sha.pad msg.length].flatten)) = Sha.sum msg) := by unfold Hid; simp [Sha.sum]
  have HST := Lib.hid hst
  clear hh3 hu3 R2 BEL2 BY2 HF2 KW2 hst
  generalize Sha.stateOf (msg ++ [Sha.pad msg.length].flatten) = st at *
  go_wp2_with (with_reducible refine wpList_load_mid (op := ⟨some 17, _, _, _, _, _⟩) ?a1 68 (.tmp 16) ?a2 f 0 ?a3 (ints .u32 st) _ hr8.out Tryd.underlying68 ?a4 hi8.out ?_)
  case a1 => rfl
  case a2 => rfl
  case a3 => rfl
  case a4 => rfl
  go_wp2_with fail
  refine (digest_walk st HST.out _).mono ?_
  rintro e w4 ⟨rfl, hbel4⟩
  rw [hsum.out]
  have R4 := Lib.hid (R3.out.below hbel4 R3.out.lt)
  have BEL4 := Lib.hid (BEL3.out.trans (hbel4.mono BEL3.out.size))
  have hs32 : (Sha.sum msg).length = 32 := Sha.sum_length msg
  have hi : Hid ((Tryd.prog.info? 24).map (·.size) = some (ints .u8 (Sha.sum msg)).length) := by unfold Hid; rw [ints_length, hs32]; exact infoDigest
  have hi' : Hid ((Tryd.prog.info? 24).map (·.size) = some (ints .u8 (Sha.sum msg)).toArray.size) := by unfold Hid; rw [List.size_toArray, ints_length, hs32]; exact infoDigest
  have hl : Hid ((ints .u8 (Sha.sum msg)).length = (ints .u8 (List.replicate 32 0)).length) := by unfold Hid; rw [ints_length, hs32, ints_length, List.length_replicate]
  clear hs32 hbel4 R3 BEL3
  go_wp2_with (refine wpList_store_whole rfl 24 _ _ rfl w.heap.size (ints .u8 (Sha.sum msg)) rfl rfl 24 (ints .u8 (List.replicate 32 0)) R4.out hl.out hi.out (ints_oneCell _ _) ?_)
  intro w5 hb5 hup5 _
  refine wpList_nil ?_
  go_wp2
  have hbl := hup5.below BEL4.out (Nat.le_refl _) BEL4.out.size
  refine bodyPost_ret (v := .agg (ints .u8 (Sha.sum msg)).toArray) ?_ rfl ⟨rfl, hbl⟩
  refine results_cell_row (g := w.heap.size) (t := 24) (cs := (ints .u8 (Sha.sum msg)).toArray) (fr := (0, 0)) Tryd.results37 _ _ _ ?_ ?_ Tryd.underlying24 rfl hi'.out
  · rfl
  · exact hb5
theorem BytesIn.at {w : World} {v : Value} {zs : List Int} (h : BytesIn w v zs) {b : Nat} (hb : w.heap.size ≤ b) : BytesAt w b v zs := by
  obtain ⟨a, cap, h1, h2, h3⟩ := h
  refine ⟨a, cap, h1, h2, fun hp => ?_⟩
  obtain ⟨pb, po, h4, h5, h6⟩ := h3 hp
  exact ⟨pb, po, h4, by omega, h5, h6⟩
theorem BytesAt.in {w : World} {b : Nat} {v : Value} {zs : List Int} (h : BytesAt w b v zs) : BytesIn w v zs := by
  obtain ⟨a, cap, h1, h2, h3⟩ := h
  refine ⟨a, cap, h1, h2, fun hp => ?_⟩
  obtain ⟨pb, po, h4, _, h5, h6⟩ := h3 hp
  exact ⟨pb, po, h4, h5, h6⟩
set_option maxHeartbeats 1000000 in
theorem sum_walk (v : Value) (zs : List Int) (w : World) (hv : BytesIn w v zs) (hN : zs.length + 72 ≤ 1125899906842624) (hK : KW w) :
    Calls Tryd.prog 23 #[v] w fun e w' => e = .returned (.agg (ints .u8 (Sha.sum zs)).toArray) ∧ Below w.heap.size w w' := by
  obtain ⟨av, capv, rfl, _⟩ := id hv
  have HV := Lib.hid hv
  have HK := Lib.hid hK
  clear hv hK
  go_enter Tryd.func23, Tryd.ntmps23
  go_wp2_with fail
  refine (new_walk _).mono ?_
  rintro e w1 ⟨b, hb1, rfl, hh1, hbel1⟩
  have hbs : w.heap.size + 1 ≤ b := by simpa using hb1
  have R1 : Hid (Blk w1 w.heap.size 24 (ints .u8 (List.replicate 32 0))) := (Blk.new2 _ _ _ _ _ rfl (by kernel_rfl)).below hbel1 (by simp)
  have BEL1 : Hid (Below w.heap.size w w1) := ((Below.refl _ _).alloc (Nat.le_refl _) _).trans (hbel1.mono (by simp))
  have HH1 := Lib.hid hh1
  have BY1 : Hid (BytesAt w1 b (.slice av zs.length capv) zs) := ((HV.out.at (by omega)).upd (Upd.of_below BEL1.out (Nat.le_refl _)))
  have KW1 := Lib.hid (HK.out.below BEL1.out HK.out.lt)
  have hKb : 1 ≠ b := by have := HK.out.lt; omega
  have hlt := HH1.out.lt
  have hfl : Hid (([] : List Int).length + [zs].flatten.length ≤ 1125899906842624) := by unfold Hid; simp; omega
  clear hb1 hh1 hbel1
  go_wp2_with fail
  refine (write_walk b [] [zs] _ _ (HH1.out.alloc _) (parts_one (Blk.new2 _ _ _ [_] _ rfl rfl) (by omega) (BY1.out.alloc _)) hfl.out (KW1.out.upd ((Upd.refl b w1).alloc _) hKb) hKb).mono ?_
  rintro e w2 ⟨rfl, hh2, hu2⟩
  have R2 := Lib.hid (hu2.blk (R1.out.alloc _) (by omega))
  have BEL2 := Lib.hid (hu2.below (BEL1.out.alloc BEL1.out.size _) (by omega) (by have := BEL1.out.size; simp; omega))
  have HH2 : Hid (HashIs w2 b zs) := by unfold Hid; simpa using hh2
  have KW2 := Lib.hid (HK.out.below BEL2.out HK.out.lt)
  clear hh2 hu2 R1 BEL1 HH1 BY1 KW1
  go_wp2_with fail
  refine (hsum_walk b zs _ HH2.out hN KW2.out).mono ?_
  rintro e w4 ⟨rfl, hbel4⟩
  have R4 := Lib.hid (R2.out.below hbel4 R2.out.lt)
  have BEL4 := Lib.hid (BEL2.out.trans (hbel4.mono BEL2.out.size))
  have hs32 : (Sha.sum zs).length = 32 := Sha.sum_length zs
  have hi : Hid ((Tryd.prog.info? 24).map (·.size) = some (ints .u8 (Sha.sum zs)).length) := by unfold Hid; rw [ints_length, hs32]; exact infoDigest
  have hi' : Hid ((Tryd.prog.info? 24).map (·.size) = some (ints .u8 (Sha.sum zs)).toArray.size) := by unfold Hid; rw [List.size_toArray, ints_length, hs32]; exact infoDigest
  have hl : Hid ((ints .u8 (Sha.sum zs)).length = (ints .u8 (List.replicate 32 0)).length) := by unfold Hid; rw [ints_length, hs32, ints_length, List.length_replicate]
  clear hs32 hbel4 R2 BEL2 HH2 KW2
  go_wp2_with (refine wpList_store_whole rfl 24 _ _ rfl w.heap.size (ints .u8 (Sha.sum zs)) rfl rfl 24 (ints .u8 (List.replicate 32 0)) R4.out hl.out hi.out (ints_oneCell _ _) ?_)
  intro w5 hb5 hup5 _
  refine wpList_nil ?_
  go_wp2
  have hbl := hup5.below BEL4.out (Nat.le_refl _) BEL4.out.size
  refine bodyPost_ret (v := .agg (ints .u8 (Sha.sum zs)).toArray) ?_ rfl ⟨rfl, hbl⟩
  refine results_cell_row (g := w.heap.size) (t := 24) (cs := (ints .u8 (Sha.sum zs)).toArray) (fr := (0, 0)) Tryd.results23 _ _ _ ?_ ?_ Tryd.underlying24 rfl hi'.out
  · rfl
  · exact hb5
end Go.Proofs.YtoeilaedpibboaaDoor
