/- SealChanged answers true. -/
import Derived.Test.YtaeghgnhpgkcdaaDoorSealJ
import Derived.Test.YtaeghgnhpgkcdaaDoorShaParts
namespace Go.Proofs.YtaeghgnhpgkcdaaDoor
open Go Go.RowKit
set_option maxRecDepth 100000

theorem andR (x : Int) (m : Nat) (hm : m ≤ 1023) : 0 ≤ bits BinOp.and IntKind.i64 x (m : Int) ∧ bits BinOp.and IntKind.i64 x (m : Int) ≤ (m : Int) := by
  have h0 : (BitVec.ofInt 64 (m : Int)).toNat = m := by rw [BitVec.toNat_ofInt]; omega
  have h1 : (BitVec.ofInt 64 x &&& BitVec.ofInt 64 (m : Int)).toNat ≤ m := by
    rw [BitVec.toNat_and, h0]
    exact Nat.and_le_right
  have h2 : bits BinOp.and IntKind.i64 x (m : Int) = IntKind.i64.wrap ((BitVec.ofInt 64 x &&& BitVec.ofInt 64 (m : Int)).toNat : Int) := rfl
  rw [h2, IntWalk.i64_in _ (by omega)]
  omega
theorem and255 (x : Int) : bits BinOp.and IntKind.i64 x 255 = x % 256 := by
  have h0 : (BitVec.ofInt 64 (255 : Int)).toNat = 2 ^ 8 - 1 := by decide
  have h1 : (BitVec.ofInt 64 x &&& BitVec.ofInt 64 255).toNat = (x % 256).toNat := by
    rw [BitVec.toNat_and, h0, Nat.and_two_pow_sub_one_eq_mod, BitVec.toNat_ofInt]
    omega
  have h2 : bits BinOp.and IntKind.i64 x 255 = IntKind.i64.wrap ((BitVec.ofInt 64 x &&& BitVec.ofInt 64 255).toNat : Int) := rfl
  rw [h2, h1, IntWalk.i64_in _ (by omega)]
  omega
theorem xor_ne (x b : Int) (hx : 0 ≤ x ∧ x ≤ 255) (hb : 0 ≤ b ∧ b ≤ 255) (h0 : b ≠ 0) : 0 ≤ bits BinOp.xor IntKind.u8 x b ∧ bits BinOp.xor IntKind.u8 x b ≤ 255 ∧ bits BinOp.xor IntKind.u8 x b ≠ x := by
  obtain ⟨x, rfl⟩ := Int.eq_ofNat_of_zero_le hx.1
  obtain ⟨b, rfl⟩ := Int.eq_ofNat_of_zero_le hb.1
  have e1 : (BitVec.ofInt 8 (x : Int)).toNat = x := by rw [BitVec.toNat_ofInt]; omega
  have e2 : (BitVec.ofInt 8 (b : Int)).toNat = b := by rw [BitVec.toNat_ofInt]; omega
  have h2 : bits BinOp.xor IntKind.u8 (x : Int) (b : Int) = IntKind.u8.wrap ((BitVec.ofInt 8 (x : Int) ^^^ BitVec.ofInt 8 (b : Int)).toNat : Int) := rfl
  have h3 : x ^^^ b < 2 ^ 8 := Nat.xor_lt_two_pow (by omega) (by omega)
  rw [h2, BitVec.toNat_xor, e1, e2]
  have h4 : IntKind.u8.wrap ((x ^^^ b : Nat) : Int) = ((x ^^^ b : Nat) : Int) := by
    rw [show IntKind.u8.wrap ((x ^^^ b : Nat) : Int) = ((x ^^^ b : Nat) : Int) % 256 from rfl]
    omega
  rw [h4]
  refine ⟨by omega, by omega, fun e => h0 ?_⟩
  have e5 : x ^^^ b = x := by omega
  have h6 : x ^^^ (x ^^^ b) = b := by rw [← Nat.xor_assoc, Nat.xor_self, Nat.zero_xor]
  rw [e5, Nat.xor_self] at h6
  omega
theorem run_at_byte (g o p : Nat) (hp : p < 64) (w : World) : (Instr.indexAt 37 (.pointer (some ⟨g, o, none⟩)) (.int .i64 (p : Int))).run Tryd.prog w = .ok (.pointer (some ⟨g, o + p, none⟩)) w := by
  have hz : (sizeOf (Tryd.prog.elem 37)).run Tryd.prog w = .ok 1 w := by kernel_rfl
  have hA : Tryd.prog.arrayLen 37 = 64 := by kernel_rfl
  have ht : Tryd.prog.underlying 37 = some (.array (Tryd.prog.arrayLen 37) (Tryd.prog.elem 37)) := by kernel_rfl
  rw [run_indexAt_array w 37 _ _ _ ht, if_pos (by rw [hA]; omega), hz, Result.andThen_ok, Addr.add_mid, Int.toNat_natCast, Nat.mul_one]
theorem bytes_set {l : List Int} (h : isBytes l) (i : Nat) {y : Int} (hy : 0 ≤ y ∧ y ≤ 255) : isBytes (l.set i y) := fun x hx => by
  rcases List.mem_or_eq_of_mem_set hx with h1 | h1
  · exact h x h1
  · rw [h1]; exact hy
theorem BytesIn.set {w : World} {v : Value} {zs : List Int} {g i : Nat} {y : Value} (h : BytesIn w v zs) (hg : ∀ pb po l c, v = .slice (some ⟨pb, po, none⟩) l c → pb ≠ g) : BytesIn (w.setCell ⟨g, i, none⟩ y) v zs := by
  obtain ⟨a, cap, h1, h2, h3⟩ := h
  refine ⟨a, cap, h1, h2, fun hp => ?_⟩
  obtain ⟨pb, po, h4, h5, h6⟩ := h3 hp
  have hne := hg pb po zs.length cap (by rw [h1, h4])
  have e : (w.setCell ⟨g, i, none⟩ y).heap.size = w.heap.size := size_setCells [y] w g i
  exact ⟨pb, po, h4, by rw [e]; exact h5, fun j u hu => by rw [((Upd.refl g w).setCell i y).cell (p := ⟨pb, po + j, none⟩) h5 hne]; exact h6 j u hu⟩
set_option maxHeartbeats 2000000 in
theorem changed_main (gen num at' place by' : Int) (u : Value) (rec : List Int) (w : World) (hu : BytesIn w u rec) (hnil : NilOk u) (hb : isBytes rec) (hK : KW w) :
    Calls Tryd.prog 6 #[.int .i64 gen, .int .i64 num, u, .int .i64 at', .int .i64 place, .int .i64 by'] w fun e w' => e = .returned (.bool true) ∧ Below w.heap.size w w' := by
  obtain ⟨ua, uc, rfl, -⟩ := id hu
  have HU := Lib.hid hu
  have HNI := Lib.hid hnil
  have HB := Lib.hid hb
  have HK := Lib.hid hK
  obtain ⟨n, hn⟩ : ∃ n, Hid (rec.length = n) := ⟨_, rfl⟩
  rw [hn.out] at HU HNI ⊢
  obtain ⟨B, hB⟩ : ∃ B, Hid (w.heap.size = B) := ⟨_, rfl⟩
  have HKB : Hid (0 < B) := by unfold Hid; rw [← hB.out]; exact hK.lt
  rw [hB.out]
  clear hu hnil hb hK
  go_enter Tryd.func6, Tryd.ntmps6
  go_wp2_with fail
  refine (slalive_walk _ HK.out).mono ?_
  rintro e w1 ⟨rfl, hb1⟩
  rw [hB.out] at hb1
  have BE1 := Lib.hid hb1
  have U1 : Hid (BytesIn w1 (.slice ua n uc) rec) := HU.out.below hb1 (Nat.le_of_eq hB.out)
  have K1 : Hid (KW w1) := HK.out.below hb1 HKB.out
  clear hb1
  by_cases hok : okPack gen num n
  · have HOK0 := Lib.hid hok
    obtain ⟨g, rfl⟩ := Int.eq_ofNat_of_zero_le (show 0 ≤ gen by have := hok.2.1; omega)
    obtain ⟨m, rfl⟩ := Int.eq_ofNat_of_zero_le (show 0 ≤ num from hok.2.2.2.1)
    have HOK : Hid (okPack (g : Int) (m : Int) rec.length) := by unfold Hid; rw [hn.out]; exact hok
    have HOK1 : Hid (n ≤ 2000) := hok.1
    clear hok HOK0
    go_wp2_with fail
    refine (pack_ok g m _ rec _ U1.out HNI.out HOK.out K1.out).mono ?_
    rintro e w2 ⟨G, rfl, hG, hblk, hb2⟩
    rw [hn.out]
    obtain ⟨k, hk⟩ : ∃ k, Hid (needN n = k) := ⟨_, rfl⟩
    have k1 : 1 ≤ k := by have := needN_pos n; rw [hk.out] at this; exact this
    rw [hk.out]
    have X2 := Lib.hid hblk
    have BE2 : Hid (Below B w w2) := BE1.out.trans (hb2.mono (by have := BE1.out.size; have := hB.out; omega))
    have hs2 : Hid (B ≤ G) := by unfold Hid; have := BE1.out.size; have := hB.out; omega
    have U2 : Hid (BytesIn w2 (.slice ua n uc) rec) := HU.out.below BE2.out (Nat.le_of_eq hB.out)
    have K2 : Hid (KW w2) := HK.out.below BE2.out HKB.out
    clear hG hblk hb2 BE1 U1 K1
    by_cases hz : bits BinOp.and IntKind.i64 by' 255 = 0
    · have hz' : (bits BinOp.and IntKind.i64 by' 255 == 0) = true := by simpa using hz
      clear hz
      go_wp2
      go_ret
      exact ⟨rfl, BE2.out⟩
    · have hz' : (bits BinOp.and IntKind.i64 by' 255 == 0) = false := by simpa using hz
      have HZ := Lib.hid hz
      clear hz
      have ha := andR at' 1023 (by omega)
      have ha0 : 0 ≤ bits BinOp.and IntKind.i64 at' 1023 := ha.1
      have ha1 : bits BinOp.and IntKind.i64 at' 1023 ≤ 1023 := ha.2
      have hk0 : ((k : Int) == 0) = false := by simpa using (show ¬ k = 0 by omega)
      have hk1 : 1 ≤ (k : Int) := by omega
      clear ha
      obtain ⟨j, hj⟩ : ∃ j : Nat, bits BinOp.and IntKind.i64 at' 1023 % (k : Int) = (j : Int) := Int.eq_ofNat_of_zero_le (Int.emod_nonneg _ (by omega))
      have jk : j < k := by have := Int.emod_lt_of_pos (bits BinOp.and IntKind.i64 at' 1023) (show (0 : Int) < (k : Int) by omega); omega
      have HJ := Lib.hid hj
      obtain ⟨p, hp⟩ : ∃ p : Nat, bits BinOp.and IntKind.i64 place 63 = (p : Int) := Int.eq_ofNat_of_zero_le (andR place 63 (by omega)).1
      have p63 : p < 64 := by have h63 : bits BinOp.and IntKind.i64 place 63 ≤ 63 := (andR place 63 (by omega)).2; omega
      have HP := Lib.hid hp
      obtain ⟨L, hL⟩ : ∃ L, Hid (packF g m rec = L) := ⟨_, rfl⟩
      have HLL : Hid (L.length = 64 * k) := by unfold Hid; rw [← hL.out, packF_length, hn.out, hk.out]
      have HLB : Hid (isBytes L) := by unfold Hid; rw [← hL.out]; exact packF_bytes g m HB.out
      rw [hL.out] at X2
      obtain ⟨x, hx⟩ : ∃ x, L[64 * j + p]? = some x := ⟨_, List.getElem?_eq_getElem (by rw [HLL.out]; omega)⟩
      have HX := Lib.hid hx
      have xr := HLB.out x (List.mem_of_getElem? hx)
      obtain ⟨bb, hbb⟩ : ∃ bb, Hid (by' % 256 = bb) := ⟨_, rfl⟩
      have br : 0 ≤ bb ∧ bb ≤ 255 ∧ bb ≠ 0 := by
        have h := HZ.out
        rw [and255, hbb.out] at h
        have := hbb.out
        omega
      obtain ⟨y, hy⟩ : ∃ y, Hid (bits BinOp.xor IntKind.u8 x bb = y) := ⟨_, rfl⟩
      have yr : 0 ≤ y ∧ y ≤ 255 ∧ y ≠ x := by rw [← hy.out]; exact xor_ne x bb xr ⟨br.1, br.2.1⟩ br.2.2
      have YR := Lib.hid yr
      clear hj hp hx xr br yr
      go_upto_region 7 with (fail)
      rw [HJ.out]
      refine region_begin (opsOf Tryd.f6 7) (fun _ => True) (by kernel_rfl) (by kernel_rfl) 13 (by kernel_rfl) ?_
      intro Q' hQN hN
      have hS : Blk w2.drew G 37 (ints .u8 L) := X2.out
      refine reg_now 0 (.slice (some ⟨G, 0, none⟩) k k) (some 40) hQN trivial (by kernel_rfl) (by kernel_rfl) (fun w => by kernel_rfl) ?_
      refine reg_now 1 (.int .i64 (j : Int)) (some 41) hQN trivial (by kernel_rfl) (by kernel_rfl) (fun w => by kernel_rfl) ?_
      refine reg_now 2 (.int .i64 place) (some 42) hQN trivial (by kernel_rfl) (by kernel_rfl) (fun w => by kernel_rfl) ?_
      refine reg_now 3 (.int .i64 (bits BinOp.and IntKind.i64 place 63)) (some 43) hQN trivial (by kernel_rfl) (by kernel_rfl) (fun w => by kernel_rfl) ?_
      rw [HP.out]
      refine reg_now 4 (.pointer (some ⟨G, 0 + 64 * j, none⟩)) (some 44) hQN trivial (by kernel_rfl) (by kernel_rfl) (fun w' => exec_indexAt 23 (.tmp 40) (.tmp 41) (by kernel_rfl) _ _ _ (by kernel_rfl) (by kernel_rfl) (run_at_block G 0 k k j jk w')) ?_
      rw [Nat.zero_add]
      refine reg_now 5 (.pointer (some ⟨G, 64 * j + p, none⟩)) (some 45) hQN trivial (by kernel_rfl) (by kernel_rfl) (fun w' => exec_indexAt 37 (.tmp 44) (.tmp 43) (by kernel_rfl) _ _ _ (by kernel_rfl) (by kernel_rfl) (run_at_byte G (64 * j) p p63 w')) ?_
      refine reg_now 7 (.int .i64 by') (some 47) hQN trivial (by kernel_rfl) (by kernel_rfl) (fun w => by kernel_rfl) ?_
      refine reg_now 8 (.int .u8 (by' % 256)) (some 48) hQN trivial (by kernel_rfl) (by kernel_rfl) (fun w => by kernel_rfl) ?_
      rw [hbb.out]
      refine reg_now 10 (.pointer (some ⟨G, 0 + 64 * j, none⟩)) (some 50) hQN trivial (by kernel_rfl) (by kernel_rfl) (fun w' => exec_indexAt 23 (.tmp 40) (.tmp 41) (by kernel_rfl) _ _ _ (by kernel_rfl) (by kernel_rfl) (run_at_block G 0 k k j jk w')) ?_
      rw [Nat.zero_add]
      refine reg_value 6 (.int .u8 x) (some 46) _ (by kernel_rfl) (by kernel_rfl) (exec_load_cell 5 (.tmp 45) (by kernel_rfl) G (64 * j + p) (by kernel_rfl) _ (hS.cell (ints_get HX.out)) _ Tryd.underlying5 rfl) trivial ?_
      refine reg_now 9 (.int .u8 (bits BinOp.xor IntKind.u8 x bb)) (some 49) hQN trivial (by kernel_rfl) (by kernel_rfl) (fun w => by kernel_rfl) ?_
      rw [hy.out]
      refine reg_now 11 (.pointer (some ⟨G, 64 * j + p, none⟩)) (some 51) hQN trivial (by kernel_rfl) (by kernel_rfl) (fun w' => exec_indexAt 37 (.tmp 50) (.tmp 43) (by kernel_rfl) _ _ _ (by kernel_rfl) (by kernel_rfl) (run_at_byte G (64 * j) p p63 w')) ?_
      refine reg_store 12 (w2.drew.setCell ⟨G, 64 * j + p, none⟩ (.int .u8 y)) (by kernel_rfl) (by kernel_rfl) (exec_store_cell 5 (.tmp 51) (.tmp 49) (by kernel_rfl) G (64 * j + p) (.int .u8 y) (by kernel_rfl) (by kernel_rfl) 37 (ints .u8 L) hS (by rw [ints_length, HLL.out]; omega) size1Byte rfl rfl) trivial ?_
      refine reg_done (by kernel_rfl) (hN _ _ ?_)
      have X3 : Hid (Blk (w2.drew.setCell ⟨G, 64 * j + p, none⟩ (.int .u8 y)) G 37 (ints .u8 (L.set (64 * j + p) y))) := by
        have h := hS.set (64 * j + p) (.int .u8 y)
        rw [ints_set] at h
        exact h
      have BE3 : Hid (Below B w (w2.drew.setCell ⟨G, 64 * j + p, none⟩ (.int .u8 y))) := BE2.out.drew.setCell (p := ⟨G, 64 * j + p, none⟩) hs2.out _
      have U3 : Hid (BytesIn (w2.drew.setCell ⟨G, 64 * j + p, none⟩ (.int .u8 y)) (.slice ua n uc) rec) := HU.out.below BE3.out (Nat.le_of_eq hB.out)
      have K3 : Hid (KW (w2.drew.setCell ⟨G, 64 * j + p, none⟩ (.int .u8 y))) := HK.out.below BE3.out HKB.out
      generalize w2.drew.setCell ⟨G, 64 * j + p, none⟩ (.int .u8 y) = W3 at *
      obtain ⟨L', hL'⟩ : ∃ L', Hid (L.set (64 * j + p) y = L') := ⟨_, rfl⟩
      rw [hL'.out] at X3
      have LL' : Hid (L'.length = 64 * k) := by unfold Hid; rw [← hL'.out, List.length_set, HLL.out]
      have LB' : Hid (isBytes L') := by unfold Hid; rw [← hL'.out]; exact bytes_set HLB.out _ ⟨YR.out.1, YR.out.2.1⟩
      have LN : Hid (L' ≠ packF g m rec) := by
        intro e
        rw [hL.out] at e
        have h1 : L'[64 * j + p]? = some y := by rw [← hL'.out, List.getElem?_set_self (by rw [HLL.out]; omega)]
        rw [e, HX.out] at h1
        exact YR.out.2.2 (Option.some.inj h1).symm
      clear hS hQN hN X2 BE2 U2 K2
      generalize hact : Act.put _ none undef = act
      simp only [Act.put, List.setIfInBounds_toArray, List.set_cons_succ, List.set_cons_zero] at hact
      subst hact
      have hk2 : k ≤ 1000000000 := by have := needN_le n HOK1.out; rw [hk.out] at this; omega
      by_cases hun : unpOk (g : Int) (m : Int) L' k
      · have HC := Lib.hid (unpack_ok (g : Int) (m : Int) _ k L' W3 (blks_blk X3.out LL'.out) LB'.out hk2 hun K3.out)
        have HNE : Hid (recP L' ≠ rec) := unp_other (gen := (g : Int)) (num := (m : Int)) (by rw [LL'.out, hn.out, hk.out]) (by rw [Int.toNat_natCast, Int.toNat_natCast]; exact LN.out) (by rw [hn.out, hk.out]; exact hun)
        have HRL : Hid ((recP L').length ≤ 4611686018427387904) := by unfold Hid; rw [recP_length LL'.out hun.2.2.1]; have := hun.2.1; omega
        clear hun X3 K3
        go_wp2_with fail
        refine HC.out.mono ?_
        rintro e w4 ⟨v4, rfl, hv4, -, hb4⟩
        have BE4 : Hid (Below B w w4) := BE3.out.trans (hb4.mono (by have := BE3.out.size; have := hB.out; omega))
        have U4 : Hid (BytesIn w4 (.slice ua n uc) rec) := U3.out.below hb4 (Nat.le_refl _)
        have V4 := Lib.hid hv4
        clear hv4 hb4 BE3 U3 HC
        go_wp2_with fail
        refine (sameb_false v4 _ (recP L') rec _ V4.out U4.out HRL.out HNE.out).mono ?_
        rintro e w5 ⟨rfl, d5, rfl⟩
        have BE5 : Hid (Below B w (w4.drewN d5)) := BE4.out.trans ((below_drewN w4 d5).mono (by have := BE4.out.size; have := hB.out; omega))
        clear BE4 V4 U4
        generalize w4.drewN d5 = W5 at *
        go_wp2
        go_ret
        exact ⟨rfl, BE5.out⟩
      · have HC := Lib.hid (unpack_no (g : Int) (m : Int) _ k L' W3 (blks_blk X3.out LL'.out) LB'.out hk2 hun K3.out)
        clear hun X3 K3
        go_wp2_with fail
        refine HC.out.mono ?_
        rintro e w4 ⟨rfl, hb4⟩
        have BE4 : Hid (Below B w w4) := BE3.out.trans (hb4.mono (by have := BE3.out.size; have := hB.out; omega))
        clear hb4 BE3 U3 HC
        go_wp2
        go_ret
        exact ⟨rfl, BE4.out⟩
  · have HOK := Lib.hid hok
    clear hok
    go_wp2_with fail
    refine (pack_no gen num ua n uc _ HOK.out).mono ?_
    rintro e w2 ⟨rfl, rfl⟩
    go_wp2
    go_ret
    exact ⟨rfl, BE1.out⟩
end Go.Proofs.YtaeghgnhpgkcdaaDoor
