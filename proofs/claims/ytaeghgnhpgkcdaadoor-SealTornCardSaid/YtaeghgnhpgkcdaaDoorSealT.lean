/- SealTorn answers true. -/
import Derived.Test.YtaeghgnhpgkcdaaDoorSealK
namespace Go.Proofs.YtaeghgnhpgkcdaaDoor
open Go Go.RowKit
set_option maxRecDepth 100000

theorem whole_ends {x : List Int} (hl : x.length = 64) (hb : isBytes x) (hw : wholeP x) : x.drop 56 = x.take 8 := by
  obtain ⟨h1, h2⟩ := hw
  have hc := cntP_range hb hl
  have h3 : ((x.drop 10).take (cntP x).toNat).length ≤ 46 := by rw [List.length_take]; omega
  have h4 := sectorP_last (m := x.take 8) (data := (x.drop 10).take (cntP x).toNat) (by rw [List.length_take]; omega) h3
  rw [← h2] at h4
  exact h4
theorem torn_eq {old b x : List Int} {g k : Nat} (ho : old.length = 64) (hbl : b.length = 64) (hxl : x.length = 64) (hx : isBytes x) (hw : wholeP x) (hg : genP x = (g : Int)) (hm4 : b.take 4 = beB 4 g) (hbm : b.drop 56 = b.take 8)
    (n1 : old.take 4 ≠ b.take 4) (n2 : (old.drop 56).take 4 ≠ b.take 4) (hk : k ≤ 63) (hxe : x = b.take k ++ old.drop k ∨ x = old.take (64 - k) ++ b.drop (64 - k)) : x = b := by
  have h8 := whole_ends hxl hx hw
  have h4 : x.take 4 = beB 4 g := by
    have e1 : (x.take 8).take 4 = x.take 4 := by rw [List.take_take]; rfl
    unfold genP at hg
    rw [e1] at hg
    have e2 := beB_numB (bytes_take hx 4)
    rw [hg, Int.toNat_natCast, List.length_take, hxl] at e2
    exact e2.symm
  have join : ∀ l : List Int, l = l.take 8 ++ ((l.drop 8).take 48 ++ l.drop 56) := fun l => by
    have e : (l.drop 8).take 48 ++ l.drop 56 = l.drop 8 := by
      have := List.take_append_drop 48 (l.drop 8)
      rw [List.drop_drop] at this
      exact this
    rw [e, List.take_append_drop]
  rcases hxe with hxe | hxe
  · by_cases h56 : k ≤ 56
    · exfalso
      have e1 : x.drop 56 = old.drop 56 := by
        have hlk : (b.take k).length = k := by rw [List.length_take]; omega
        rw [hxe, List.drop_append, List.drop_eq_nil_of_le (by rw [hlk]; omega), List.nil_append, hlk, List.drop_drop, show k + (56 - k) = 56 by omega]
      refine n2 ?_
      rw [← e1, h8, List.take_take, show min 4 8 = 4 from rfl, h4, hm4]
    · have hlk : (b.take k).length = k := by rw [List.length_take]; omega
      have ea : x.take 56 = b.take 56 := by rw [hxe, List.take_append_of_le_length (by rw [hlk]; omega), List.take_take, show min 56 k = 56 by omega]
      have e8 : x.take 8 = b.take 8 := by
        have := congrArg (List.take 8) ea
        rwa [List.take_take, List.take_take] at this
      have ed : x.drop 56 = b.drop 56 := by rw [h8, e8, hbm]
      rw [← List.take_append_drop 56 x, ea, ed, List.take_append_drop]
  · by_cases h4k : 4 ≤ 64 - k
    · exfalso
      refine n1 ?_
      have e1 : x.take 4 = old.take 4 := by rw [hxe, List.take_append_of_le_length (by rw [List.length_take]; omega), List.take_take, show min 4 (64 - k) = 4 by omega]
      rw [← e1, h4, hm4]
    · have hlk : (old.take (64 - k)).length = 64 - k := by rw [List.length_take]; omega
      have ed : ∀ m, 8 ≤ m → x.drop m = b.drop m := fun m hm => by
        rw [hxe, List.drop_append, List.drop_eq_nil_of_le (by rw [hlk]; omega), List.nil_append, hlk, List.drop_drop, show 64 - k + (m - (64 - k)) = m by omega]
      have e8 : x.take 8 = b.take 8 := by rw [← h8, ed 56 (by omega), hbm]
      rw [← List.take_append_drop 8 x, e8, ed 8 (by omega), List.take_append_drop]
/-- What is there when i bytes are written. -/
def tornK (e : Bool) (old b : List Int) (i : Nat) : List Int := if e then old.take (64 - i) ++ b.drop (64 - i) else b.take i ++ old.drop i
theorem tornK_length {e : Bool} {old b : List Int} (ho : old.length = 64) (hb : b.length = 64) {i : Nat} (hi : i ≤ 64) : (tornK e old b i).length = 64 := by
  unfold tornK
  split <;> rw [List.length_append, List.length_take, List.length_drop] <;> omega
theorem tornK_bytes {e : Bool} {old b : List Int} (ho : isBytes old) (hb : isBytes b) (i : Nat) : isBytes (tornK e old b i) := by
  unfold tornK
  split
  · exact bytes_app (bytes_take ho _) (bytes_drop hb _)
  · exact bytes_app (bytes_take hb _) (bytes_drop ho _)
theorem tornK_first {old b : List Int} (ho : old.length = 64) (hb : b.length = 64) {i : Nat} (hi : i < 64) : (tornK false old b i).set i (b.getD i 0) = tornK false old b (i + 1) := by
  have hx : b[i]? = some (b.getD i 0) := by rw [List.getD_eq_getElem?_getD, List.getElem?_eq_getElem (by omega)]; rfl
  unfold tornK
  rw [if_neg (by decide), if_neg (by decide), List.set_append_right _ _ (by rw [List.length_take]; omega), List.length_take, show i - min i b.length = 0 by omega, List.take_add_one, hx]
  rw [List.drop_eq_getElem_cons (show i < old.length by omega), List.set_cons_zero, Option.toList_some, List.append_assoc, List.singleton_append]
theorem tornK_last {old b : List Int} (ho : old.length = 64) (hb : b.length = 64) {i : Nat} (hi : i < 64) : (tornK true old b i).set (63 - i) (b.getD (63 - i) 0) = tornK true old b (i + 1) := by
  have hx : b.getD (63 - i) 0 = b[63 - i]'(by omega) := by rw [List.getD_eq_getElem?_getD, List.getElem?_eq_getElem (by omega)]; rfl
  unfold tornK
  rw [if_pos rfl, if_pos rfl, show 64 - (i + 1) = 63 - i by omega, show 64 - i = (63 - i) + 1 by omega, List.take_succ_eq_append_getElem (show 63 - i < old.length by omega), List.append_assoc, List.set_append_right _ _ (by rw [List.length_take]; omega), List.length_take, show 63 - i - min (63 - i) old.length = 0 by omega, hx, List.drop_eq_getElem_cons (show 63 - i < b.length by omega)]
  simp
theorem exec_rem {P : Program} {a : Act} {w : World} {op : Oper} (ty ty2 : TypeId) (x y : Operand) (ho : op.op = .binOp .rem ty x y ty2) (p q : Int) (hx : a.eval x = .int .i64 p) (hy : a.eval y = .int .i64 q) (hq : q ≠ 0) : (execOp a.eval op).run P w = .ok (.value (.int .i64 (p.tmod q))) w := by
  unfold execOp
  simp only [ho, hx, hy, eqGuard_rem, binOp_rem, Op.intDiv]
  simp [hq]
set_option maxHeartbeats 8000000 in
theorem torn_main (old : List Int) (gen num at' kk : Int) (en : Bool) (u : Value) (rec : List Int) (w : World) (hol : old.length = 64) (hob : isBytes old) (hu : BytesIn w u rec) (hnil : NilOk u) (hb : isBytes rec) (hK : KW w) :
    Calls Tryd.prog 5 #[.agg (ints .u8 old).toArray, .int .i64 gen, .int .i64 num, u, .int .i64 at', .int .i64 kk, .bool en] w fun e w' => e = .returned (.bool true) ∧ Below w.heap.size w w' := by
  obtain ⟨ua, uc, rfl, -⟩ := id hu
  have HU := Lib.hid hu
  have HNI := Lib.hid hnil
  have HB := Lib.hid hb
  have HK := Lib.hid hK
  have HOL := Lib.hid hol
  have HOB := Lib.hid hob
  have IO : Hid ((Tryd.prog.info? 37).map (·.size) = some (ints .u8 old).length) := infoBlk old hol
  obtain ⟨n, hn⟩ : ∃ n, Hid (rec.length = n) := ⟨_, rfl⟩
  rw [hn.out] at HU HNI ⊢
  obtain ⟨B, hB⟩ : ∃ B, Hid (w.heap.size = B) := ⟨_, rfl⟩
  have HKB : Hid (0 < B) := by unfold Hid; rw [← hB.out]; exact hK.lt
  rw [hB.out]
  clear hu hnil hb hK hol hob
  go_enter Tryd.func5, Tryd.ntmps5
  go_upto_region 0 with (fail)
  refine lin_begin (opsOf Tryd.f5 0) (by kernel_rfl) ?_
  refine lin_box 0 37 (.tmp 0) (ints .u8 old) (B) (some 7) (by kernel_rfl) (by kernel_rfl) (by kernel_rfl) (by kernel_rfl) hB ?_
  intro w1 b1 be1 hs1
  refine lin_now 1 (.bool false) (some 14) (by kernel_rfl) (by kernel_rfl) (by kernel_rfl) ?_
  refine lin_done 2 (by kernel_rfl) ?_
  have K1 : Hid (KW w1) := HK.out.below be1 HKB.out
  have X1 := Lib.hid b1
  have BE1 := Lib.hid be1
  clear b1 be1
  generalize hact : Act.put _ (some 14) _ = act
  simp only [Act.put, List.setIfInBounds_toArray, List.set_cons_succ, List.set_cons_zero] at hact
  subst hact
  go_wp2_with fail
  refine (slalive_walk _ K1.out).mono ?_
  rintro e w2 ⟨rfl, hb2⟩
  have X2 := Lib.hid (X1.out.below hb2 X1.out.lt)
  have BE2 : Hid (Below B w w2) := BE1.out.trans (hb2.mono (by rw [hs1.out]; omega))
  have hs2 : Hid (B + 1 ≤ w2.heap.size) := by unfold Hid; have := hb2.size; have := hs1.out; omega
  have U2 : Hid (BytesIn w2 (.slice ua n uc) rec) := HU.out.below BE2.out (Nat.le_of_eq hB.out)
  have K2 : Hid (KW w2) := HK.out.below BE2.out HKB.out
  clear hb2 X1 BE1 K1 hs1
  by_cases hok : okPack gen num n
  · obtain ⟨g, rfl⟩ := Int.eq_ofNat_of_zero_le (show 0 ≤ gen by have := hok.2.1; omega)
    obtain ⟨m, rfl⟩ := Int.eq_ofNat_of_zero_le (show 0 ≤ num from hok.2.2.2.1)
    have HOK : Hid (okPack (g : Int) (m : Int) rec.length) := by unfold Hid; rw [hn.out]; exact hok
    have g32 : g < 4294967296 := by have := hok.2.2.1; omega
    have n2000 : n ≤ 2000 := hok.1
    clear hok
    go_wp2_with fail
    refine (pack_ok g m _ rec _ U2.out HNI.out HOK.out K2.out).mono ?_
    rintro e w3 ⟨G, rfl, hG, hblk, hb3⟩
    rw [hn.out]
    obtain ⟨k, hk⟩ : ∃ k, Hid (needN n = k) := ⟨_, rfl⟩
    have k1 : 1 ≤ k := by have := needN_pos n; rw [hk.out] at this; exact this
    rw [hk.out]
    have X3 := Lib.hid (X2.out.below hb3 X2.out.lt)
    have P3 := Lib.hid hblk
    have BE3 : Hid (Below B w w3) := BE2.out.trans (hb3.mono (by have := hs2.out; omega))
    have hs3 : Hid (B + 1 ≤ w3.heap.size) := by unfold Hid; have := hb3.size; have := hs2.out; omega
    clear hG hblk hb3 X2 BE2 hs2 U2 K2
    by_cases hkk : kk < 0 ∨ 63 < kk
    · rcases hkk with h | h
      · go_wp2
        go_ret
        exact ⟨rfl, BE3.out⟩
      · have h' : ¬ kk < 0 := by omega
        go_wp2
        go_ret
        exact ⟨rfl, BE3.out⟩
    · obtain ⟨c, rfl⟩ := Int.eq_ofNat_of_zero_le (show 0 ≤ kk by omega)
      have c63 : c ≤ 63 := by omega
      have q1 : ¬ ((c : Int) < 0) := by omega
      have q2 : ¬ (63 < (c : Int)) := by omega
      clear hkk
      have ha := andR at' 1023 (by omega)
      have ha0 : 0 ≤ bits BinOp.and IntKind.i64 at' 1023 := ha.1
      have ha1 : bits BinOp.and IntKind.i64 at' 1023 ≤ 1023 := ha.2
      have hk0 : ((k : Int) == 0) = false := by simpa using (show ¬ k = 0 by omega)
      have hk1 : 1 ≤ (k : Int) := by omega
      obtain ⟨j, hj⟩ : ∃ j : Nat, bits BinOp.and IntKind.i64 at' 1023 % (k : Int) = (j : Int) := Int.eq_ofNat_of_zero_le (Int.emod_nonneg _ (by omega))
      have jk : j < k := by have := Int.emod_lt_of_pos (bits BinOp.and IntKind.i64 at' 1023) (show (0 : Int) < (k : Int) by omega); omega
      have HJ := Lib.hid hj
      have HJM : Hid ((bits BinOp.and IntKind.i64 at' 1023).tmod (k : Int) = (j : Int)) := by unfold Hid; rw [Int.tmod_eq_emod_of_nonneg ha0]; exact hj
      skip
      obtain ⟨b, hbs⟩ : ∃ b, Hid (sectorP (markP g (m + j)) (cutP (recB rec) j) = b) := ⟨_, rfl⟩
      have GB : Hid (getB (packF g m rec) j = b) := by unfold Hid; rw [packF_get g m rec (by rw [hn.out, hk.out]; exact jk)]; exact hbs.out
      have BL : Hid (b.length = 64) := by unfold Hid; rw [← hbs.out]; exact sectorP_length (markP_length _ _) (cutP_le _ _)
      have BB : Hid (isBytes b) := by unfold Hid; rw [← hbs.out]; exact sectorP_bytes (markP_bytes _ _) (cutP_bytes (recB_bytes HB.out) _)
      have IBB : Hid ((Tryd.prog.info? 37).map (·.size) = some (ints .u8 b).length) := infoBlk b BL.out
      have M4 : Hid (b.take 4 = beB 4 g) := by
        unfold Hid
        rw [← hbs.out]
        unfold sectorP markP
        rw [List.append_assoc, List.take_append_of_le_length (by rw [beB_length]; omega), List.take_of_length_le (by rw [beB_length]; omega)]
      have M8 : Hid (b.drop 56 = b.take 8) := by unfold Hid; rw [← hbs.out, sectorP_last (markP_length _ _) (cutP_le _ _), sectorP_mark (markP_length _ _)]
      have R3 : Hid (w3.rangeAt G (0 + 64 * j) (ints .u8 b)) := by have h := getB_sub (i := j) P3.out.whole; rw [GB.out] at h; exact h
      obtain ⟨q, hq⟩ : ∃ q, Hid (w3.heap.size = q) := ⟨_, rfl⟩
      clear ha hj
      go_upto_region 6 with (fail)
      refine lin_begin (opsOf Tryd.f5 6) (by kernel_rfl) ?_
      refine lin_now 0 (.slice (some ⟨G, 0, none⟩) k k) (some 43) (by kernel_rfl) (by kernel_rfl) (by kernel_rfl) ?_
      refine lin_now 1 (.int .i64 at') (some 44) (by kernel_rfl) (by kernel_rfl) (by kernel_rfl) ?_
      refine lin_now 2 (.int .i64 (bits BinOp.and IntKind.i64 at' 1023)) (some 45) (by kernel_rfl) (by kernel_rfl) (by kernel_rfl) ?_
      refine lin_now 3 (.slice (some ⟨G, 0, none⟩) k k) (some 46) (by kernel_rfl) (by kernel_rfl) (by kernel_rfl) ?_
      refine lin_now 4 (.int .i64 (k : Int)) (some 47) (by kernel_rfl) (by kernel_rfl) (by kernel_rfl) ?_
      refine lin_now 5 (.int .i64 (j : Int)) (some 48) (by kernel_rfl) (by kernel_rfl) (by rw [exec_rem 3 3 (.tmp 45) (.tmp 47) (by kernel_rfl) (bits BinOp.and IntKind.i64 at' 1023) (k : Int) (by kernel_rfl) (by kernel_rfl) (by omega), HJM.out]) ?_
      refine lin_now 6 (.pointer (some ⟨G, 0 + 64 * j, none⟩)) (some 49) (by kernel_rfl) (by kernel_rfl) (exec_indexAt 23 (.tmp 43) (.tmp 48) (by kernel_rfl) _ _ _ (by kernel_rfl) (by kernel_rfl) (run_at_block G 0 k k j jk w3)) ?_
      refine lin_now 7 (.agg (ints .u8 b).toArray) (some 50) (by kernel_rfl) (by kernel_rfl) (exec_load_mid 37 (.tmp 49) (by kernel_rfl) G (0 + 64 * j) (by kernel_rfl) (ints .u8 b) _ R3.out Tryd.underlying37 rfl IBB.out) ?_
      refine lin_alloc 8 37 (ints .u8 zB) (q) (some 17) (by kernel_rfl) (by kernel_rfl) (by kernel_rfl) zeroBlk hq ?_
      intro w4 b4 be4 hs4
      refine lin_put 9 37 (.tmp 17) (.tmp 50) (q) _ (ints .u8 zB) (ints .u8 b) (by kernel_rfl) (by kernel_rfl) (by kernel_rfl) (by kernel_rfl) (by kernel_rfl) b4 (by rw [ints_length, ints_length, BL.out, zB_length]) IBB.out (ints_oneCell _ _) ?_
      intro w5 b5 u5
      refine lin_done 10 (by kernel_rfl) ?_
      have Bq : Hid (B + 1 ≤ q) := by unfold Hid; have := hs3.out; have := hq.out; omega
      have X5 : Hid (Blk w5 B 37 (ints .u8 old)) := u5.blk (X3.out.below be4 (by have := Bq.out; omega)) (by have := Bq.out; omega)
      have Y5 := Lib.hid b5
      have BE5 : Hid (Below B w w5) := u5.below (BE3.out.trans (be4.mono (by have := Bq.out; omega))) (by have := Bq.out; omega) (by have := hs4.out; have := Bq.out; omega)
      have hs5 : Hid (q + 1 ≤ w5.heap.size) := by unfold Hid; have := u5.size; have := hs4.out; omega
      clear X3 P3 BE3 hs3 b4 be4 hs4 b5 u5 hq R3
      generalize hact : Act.put _ none _ = act
      simp only [Act.put, List.setIfInBounds_toArray, List.set_cons_succ, List.set_cons_zero] at hact
      subst hact
      have OA : Hid (BytesIn w5 (.slice (some ⟨B, 0, none⟩) 4 64) (old.take 4)) := ⟨_, 64, by rw [List.length_take, HOL.out]; rfl, by rw [List.length_take, HOL.out]; omega, fun _ => ⟨B, 0, rfl, X5.out.lt, by have h := range_part X5.out 0 4; rw [List.drop_zero] at h; exact h⟩⟩
      have OE : Hid (BytesIn w5 (.slice (some ⟨B, 56, none⟩) 4 8) ((old.drop 56).take 4)) := by
        have e : ((old.drop 56).take 4).length = 4 := by rw [List.length_take, List.length_drop, HOL.out]; rfl
        exact ⟨_, 8, by rw [e], by rw [e]; omega, fun _ => ⟨B, 56, rfl, X5.out.lt, range_part X5.out 56 4⟩⟩
      have BM : Hid (BytesIn w5 (.slice (some ⟨q, 0, none⟩) 4 64) (b.take 4)) := ⟨_, 64, by rw [List.length_take, BL.out]; rfl, by rw [List.length_take, BL.out]; omega, fun _ => ⟨q, 0, rfl, Y5.out.lt, by have h := range_part Y5.out 0 4; rw [List.drop_zero] at h; exact h⟩⟩
      go_upto_region 7 with (fail)
      refine lin_begin (opsOf Tryd.f5 7) (by kernel_rfl) ?_
      refine lin_now 0 (.slice (some ⟨q, 0, none⟩) 4 64) (some 51) (by kernel_rfl) (by kernel_rfl) (by kernel_rfl) ?_
      refine lin_now 1 (.slice (some ⟨q, 0, none⟩) 4 64) (some 18) (by kernel_rfl) (by kernel_rfl) (by kernel_rfl) ?_
      refine lin_done 2 (by kernel_rfl) ?_
      generalize hact : Act.put _ (some 18) _ = act
      simp only [Act.put, List.setIfInBounds_toArray, List.set_cons_succ, List.set_cons_zero] at hact
      subst hact
      by_cases hn1 : old.take 4 = b.take 4
      · have HC := Lib.hid (sameb_walk _ _ (old.take 4) (b.take 4) w5 OA.out BM.out (by rw [List.length_take]; omega))
        rw [decide_eq_true hn1] at HC
        clear hn1
        go_upto_region 8 with (fail)
        refine lin_begin (opsOf Tryd.f5 8) (by kernel_rfl) ?_
        refine lin_now 0 (.slice (some ⟨B, 0, none⟩) 4 64) (some 52) (by kernel_rfl) (by kernel_rfl) (by kernel_rfl) ?_
        refine lin_now 1 (.slice (some ⟨q, 0, none⟩) 4 64) (some 53) (by kernel_rfl) (by kernel_rfl) (by kernel_rfl) ?_
        refine lin_call 2 13 #[.slice (some ⟨B, 0, none⟩) 4 64, .slice (some ⟨q, 0, none⟩) 4 64] (some 54) _ (by kernel_rfl) (by kernel_rfl) (by kernel_rfl) (HC.out) ?_
        rintro e w6 ⟨rfl, d6, rfl⟩
        refine ⟨_, rfl, ?_⟩
        refine lin_now 3 (.bool true) (some 55) (by kernel_rfl) (by kernel_rfl) (by kernel_rfl) ?_
        refine lin_pass 4 (some 56) (by kernel_rfl) (by kernel_rfl) ?_
        refine lin_pass 5 (some 57) (by kernel_rfl) (by kernel_rfl) ?_
        refine lin_pass 6 (some 58) (by kernel_rfl) (by kernel_rfl) ?_
        refine lin_now 7 (.bool true) (some 59) (by kernel_rfl) (by kernel_rfl) (by kernel_rfl) ?_
        refine lin_done 8 (by kernel_rfl) ?_
        have BE6 : Hid (Below B w (w5.drewN d6)) := BE5.out.trans ((below_drewN w5 d6).mono (by have := BE5.out.size; have := hB.out; omega))
        clear BE5 HC
        generalize w5.drewN d6 = W6 at *
        generalize hact : Act.put _ (some 59) _ = act
        simp only [Act.put, List.setIfInBounds_toArray, List.set_cons_succ, List.set_cons_zero] at hact
        subst hact
        go_wp2
        go_ret
        exact ⟨rfl, BE6.out⟩
      · have HC := Lib.hid (sameb_walk _ _ (old.take 4) (b.take 4) w5 OA.out BM.out (by rw [List.length_take]; omega))
        rw [decide_eq_false hn1] at HC
        have N1 := Lib.hid hn1
        clear hn1
        by_cases hn2 : (old.drop 56).take 4 = b.take 4
        · have HC2 : Hid (∀ d, Calls Tryd.prog 13 #[.slice (some ⟨B, 56, none⟩) 4 8, .slice (some ⟨q, 0, none⟩) 4 64] (w5.drewN d) fun e w' => e = .returned (.bool true) ∧ ∃ n, w' = (w5.drewN d).drewN n) := fun d => by
            have h := sameb_walk _ _ ((old.drop 56).take 4) (b.take 4) (w5.drewN d) OE.out BM.out (by rw [List.length_take]; omega)
            rw [decide_eq_true hn2] at h
            exact h
          clear hn2
          go_upto_region 8 with (fail)
          refine lin_begin (opsOf Tryd.f5 8) (by kernel_rfl) ?_
          refine lin_now 0 (.slice (some ⟨B, 0, none⟩) 4 64) (some 52) (by kernel_rfl) (by kernel_rfl) (by kernel_rfl) ?_
          refine lin_now 1 (.slice (some ⟨q, 0, none⟩) 4 64) (some 53) (by kernel_rfl) (by kernel_rfl) (by kernel_rfl) ?_
          refine lin_call 2 13 #[.slice (some ⟨B, 0, none⟩) 4 64, .slice (some ⟨q, 0, none⟩) 4 64] (some 54) _ (by kernel_rfl) (by kernel_rfl) (by kernel_rfl) (HC.out) ?_
          rintro e w6 ⟨rfl, d6, rfl⟩
          refine ⟨_, rfl, ?_⟩
          refine lin_now 3 (.bool false) (some 55) (by kernel_rfl) (by kernel_rfl) (by kernel_rfl) ?_
          refine lin_now 4 (.slice (some ⟨B, 56, none⟩) 4 8) (some 56) (by kernel_rfl) (by kernel_rfl) (by kernel_rfl) ?_
          refine lin_now 5 (.slice (some ⟨q, 0, none⟩) 4 64) (some 57) (by kernel_rfl) (by kernel_rfl) (by kernel_rfl) ?_
          refine lin_call 6 13 #[.slice (some ⟨B, 56, none⟩) 4 8, .slice (some ⟨q, 0, none⟩) 4 64] (some 58) _ (by kernel_rfl) (by kernel_rfl) (by kernel_rfl) (HC2.out d6) ?_
          rintro e w7 ⟨rfl, d7, rfl⟩
          refine ⟨_, rfl, ?_⟩
          refine lin_now 7 (.bool true) (some 59) (by kernel_rfl) (by kernel_rfl) (by kernel_rfl) ?_
          refine lin_done 8 (by kernel_rfl) ?_
          have bb7 : Below w5.heap.size w5 ((w5.drewN d6).drewN d7) := (below_drewN w5 d6).trans (below_drewN (w5.drewN d6) d7)
          have BE7 : Hid (Below B w ((w5.drewN d6).drewN d7)) := BE5.out.trans (bb7.mono (by have := BE5.out.size; have := hB.out; omega))
          clear BE5 HC HC2 bb7
          generalize (w5.drewN d6).drewN d7 = W7 at *
          generalize hact : Act.put _ (some 59) _ = act
          simp only [Act.put, List.setIfInBounds_toArray, List.set_cons_succ, List.set_cons_zero] at hact
          subst hact
          go_wp2
          go_ret
          exact ⟨rfl, BE7.out⟩
        · have HC2 : Hid (∀ d, Calls Tryd.prog 13 #[.slice (some ⟨B, 56, none⟩) 4 8, .slice (some ⟨q, 0, none⟩) 4 64] (w5.drewN d) fun e w' => e = .returned (.bool false) ∧ ∃ n, w' = (w5.drewN d).drewN n) := fun d => by
            have h := sameb_walk _ _ ((old.drop 56).take 4) (b.take 4) (w5.drewN d) OE.out BM.out (by rw [List.length_take]; omega)
            rw [decide_eq_false hn2] at h
            exact h
          have N2 := Lib.hid hn2
          clear hn2
          go_upto_region 8 with (fail)
          refine lin_begin (opsOf Tryd.f5 8) (by kernel_rfl) ?_
          refine lin_now 0 (.slice (some ⟨B, 0, none⟩) 4 64) (some 52) (by kernel_rfl) (by kernel_rfl) (by kernel_rfl) ?_
          refine lin_now 1 (.slice (some ⟨q, 0, none⟩) 4 64) (some 53) (by kernel_rfl) (by kernel_rfl) (by kernel_rfl) ?_
          refine lin_call 2 13 #[.slice (some ⟨B, 0, none⟩) 4 64, .slice (some ⟨q, 0, none⟩) 4 64] (some 54) _ (by kernel_rfl) (by kernel_rfl) (by kernel_rfl) (HC.out) ?_
          rintro e w6 ⟨rfl, d6, rfl⟩
          refine ⟨_, rfl, ?_⟩
          refine lin_now 3 (.bool false) (some 55) (by kernel_rfl) (by kernel_rfl) (by kernel_rfl) ?_
          refine lin_now 4 (.slice (some ⟨B, 56, none⟩) 4 8) (some 56) (by kernel_rfl) (by kernel_rfl) (by kernel_rfl) ?_
          refine lin_now 5 (.slice (some ⟨q, 0, none⟩) 4 64) (some 57) (by kernel_rfl) (by kernel_rfl) (by kernel_rfl) ?_
          refine lin_call 6 13 #[.slice (some ⟨B, 56, none⟩) 4 8, .slice (some ⟨q, 0, none⟩) 4 64] (some 58) _ (by kernel_rfl) (by kernel_rfl) (by kernel_rfl) (HC2.out d6) ?_
          rintro e w7 ⟨rfl, d7, rfl⟩
          refine ⟨_, rfl, ?_⟩
          refine lin_now 7 (.bool false) (some 59) (by kernel_rfl) (by kernel_rfl) (by kernel_rfl) ?_
          refine lin_done 8 (by kernel_rfl) ?_
          have bb7 : Below w5.heap.size w5 ((w5.drewN d6).drewN d7) := (below_drewN w5 d6).trans (below_drewN (w5.drewN d6) d7)
          have BE7 : Hid (Below B w ((w5.drewN d6).drewN d7)) := BE5.out.trans (bb7.mono (by have := BE5.out.size; have := hB.out; omega))
          have X7 := Lib.hid (X5.out.below bb7 X5.out.lt)
          have Y7 := Lib.hid (Y5.out.below bb7 Y5.out.lt)
          have hs7 : Hid (q + 1 ≤ ((w5.drewN d6).drewN d7).heap.size) := by unfold Hid; have := bb7.size; have := hs5.out; omega
          clear BE5 HC HC2 bb7 X5 Y5 hs5 OA OE BM
          generalize (w5.drewN d6).drewN d7 = W7 at *
          generalize hact : Act.put _ (some 59) _ = act
          simp only [Act.put, List.setIfInBounds_toArray, List.set_cons_succ, List.set_cons_zero] at hact
          subst hact
          obtain ⟨r, hr⟩ : ∃ r, Hid (W7.heap.size = r) := ⟨_, rfl⟩
          go_upto_region 10 with (fail)
          refine lin_begin (opsOf Tryd.f5 10) (by kernel_rfl) ?_
          refine lin_load 0 37 (.tmp 7) (B) _ (ints .u8 old) (some 60) (by kernel_rfl) (by kernel_rfl) (by kernel_rfl) (by kernel_rfl) X7.out _ Tryd.underlying37 rfl IO.out ?_
          refine lin_alloc 1 37 (ints .u8 zB) (r) (some 19) (by kernel_rfl) (by kernel_rfl) (by kernel_rfl) zeroBlk hr ?_
          intro w8 b8 be8 hs8
          refine lin_put 2 37 (.tmp 19) (.tmp 60) (r) _ (ints .u8 zB) (ints .u8 old) (by kernel_rfl) (by kernel_rfl) (by kernel_rfl) (by kernel_rfl) (by kernel_rfl) b8 (by rw [ints_length, ints_length, HOL.out, zB_length]) IO.out (ints_oneCell _ _) ?_
          intro w9 b9 u9
          refine lin_done 3 (by kernel_rfl) ?_
          have qr : Hid (q + 1 ≤ r) := by unfold Hid; have := hs7.out; have := hr.out; omega
          have Y9 : Hid (Blk w9 q 37 (ints .u8 b)) := u9.blk (Y7.out.below be8 (by have := qr.out; omega)) (by have := qr.out; omega)
          have Z9 : Hid (Blk w9 r 37 (ints .u8 (tornK en old b 0))) := by
            have e : tornK en old b 0 = old := by
              unfold tornK
              split
              · rw [Nat.sub_zero, List.take_of_length_le (by rw [HOL.out]; omega), List.drop_eq_nil_of_le (by rw [BL.out]; omega), List.append_nil]
              · rw [List.take_zero, List.nil_append, List.drop_zero]
            unfold Hid
            rw [e]
            exact b9
          have BE9 : Hid (Below B w w9) := u9.below (BE7.out.trans (be8.mono (by have := qr.out; have := Bq.out; omega))) (by have := qr.out; have := Bq.out; omega) (by have := hs8.out; have := qr.out; have := Bq.out; omega)
          clear X7 Y7 BE7 hs7 b8 be8 hs8 b9 u9 hr
          generalize hact : Act.put _ none _ = act
          simp only [Act.put, List.setIfInBounds_toArray, List.set_cons_succ, List.set_cons_zero] at hact
          subst hact
          go_wp2
          go_loopw [20] (fun iv wr => ∃ i : Nat, i ≤ c ∧ iv = .int .i64 (i : Int) ∧ Blk wr q 37 (ints .u8 b) ∧ Blk wr r 37 (ints .u8 (tornK en old b i)) ∧ Below B w wr) (fun iv _ => c - (intOf iv).toNat)
          case atStart => exact ⟨0, Nat.zero_le _, rfl, Y9.out, Z9.out, BE9.out⟩
          case round =>
            obtain ⟨i, hi, rfl, hy, hz, hbe⟩ := hrel
            have Y := Lib.hid hy
            have Z := Lib.hid hz
            have BE := Lib.hid hbe
            clear hy hz hbe Y9 Z9 BE9
            by_cases hlt : i < c
            · have r1 : (i : Int) < (c : Int) := by omega
              have qne : q ≠ r := by have := qr.out; omega
              have r0 : (0 : Int) ≤ (i : Int) := by omega
              have r2 : (i : Int) < 64 := by omega
              cases en with
              | false =>
                have hx : b[i]? = some (b.getD i 0) := by rw [List.getD_eq_getElem?_getD, List.getElem?_eq_getElem (by rw [BL.out]; omega)]; rfl
                have c1 := Y.out.cell (ints_get (k := .u8) hx)
                obtain ⟨x0, hx0⟩ : ∃ x0, (tornK false old b i)[i]? = some x0 := ⟨_, List.getElem?_eq_getElem (by rw [tornK_length HOL.out BL.out (by omega)]; omega)⟩
                have c2 := Z.out.cell (ints_get (k := .u8) hx0)
                have f2 := Z.out.free i
                have HZ : Hid (Blk (wr.setCell ⟨r, i, none⟩ (.int .u8 (b.getD i 0))) r 37 (ints .u8 (tornK false old b (i + 1)))) := by
                  have h := Z.out.set i (.int .u8 (b.getD i 0))
                  rw [ints_set, tornK_first HOL.out BL.out (by omega)] at h
                  exact h
                have HY := Lib.hid (Y.out.other (a := ⟨r, i, none⟩) (by simpa using qne) (.int .u8 (b.getD i 0)))
                have HE := Lib.hid (BE.out.setCell (p := ⟨r, i, none⟩) (by have := qr.out; have := Bq.out; simp only; omega) (.int .u8 (b.getD i 0)))
                clear hx hx0 Y Z BE
                generalize b.getD i 0 = y at *
                go_wp2
                exact ⟨⟨i + 1, by omega, by go_num, HY.out, HZ.out, HE.out⟩, by simp [intOf]; omega⟩
              | true =>
                have r3 : (0 : Int) ≤ 63 - (i : Int) := by omega
                have r4 : (63 : Int) - (i : Int) < 64 := by omega
                have r5 : ((63 : Int) - (i : Int)).toNat = 63 - i := by omega
                have hx : b[63 - i]? = some (b.getD (63 - i) 0) := by rw [List.getD_eq_getElem?_getD, List.getElem?_eq_getElem (by rw [BL.out]; omega)]; rfl
                have c1 := Y.out.cell (ints_get (k := .u8) hx)
                obtain ⟨x0, hx0⟩ : ∃ x0, (tornK true old b i)[63 - i]? = some x0 := ⟨_, List.getElem?_eq_getElem (by rw [tornK_length HOL.out BL.out (by omega)]; omega)⟩
                have c2 := Z.out.cell (ints_get (k := .u8) hx0)
                have f2 := Z.out.free (63 - i)
                have HZ : Hid (Blk (wr.setCell ⟨r, 63 - i, none⟩ (.int .u8 (b.getD (63 - i) 0))) r 37 (ints .u8 (tornK true old b (i + 1)))) := by
                  have h := Z.out.set (63 - i) (.int .u8 (b.getD (63 - i) 0))
                  rw [ints_set, tornK_last HOL.out BL.out (by omega)] at h
                  exact h
                have HY := Lib.hid (Y.out.other (a := ⟨r, 63 - i, none⟩) (by simpa using qne) (.int .u8 (b.getD (63 - i) 0)))
                have HE := Lib.hid (BE.out.setCell (p := ⟨r, 63 - i, none⟩) (by have := qr.out; have := Bq.out; simp only; omega) (.int .u8 (b.getD (63 - i) 0)))
                clear hx hx0 Y Z BE
                generalize b.getD (63 - i) 0 = y at *
                go_wp2
                exact ⟨⟨i + 1, by omega, by go_num, HY.out, HZ.out, HE.out⟩, by simp [intOf]; omega⟩
            · have r1 : ¬ (i : Int) < (c : Int) := by omega
              obtain rfl : i = c := by omega
              obtain ⟨x, hx⟩ : ∃ x, Hid (tornK en old b i = x) := ⟨_, rfl⟩
              rw [hx.out] at Z
              have XL : Hid (x.length = 64) := by unfold Hid; rw [← hx.out]; exact tornK_length HOL.out BL.out (by omega)
              have XB : Hid (isBytes x) := by unfold Hid; rw [← hx.out]; exact tornK_bytes HOB.out BB.out _
              have IX : Hid ((Tryd.prog.info? 37).map (·.size) = some (ints .u8 x).length) := infoBlk x XL.out
              have XE : Hid (wholeP x → genP x = (g : Int) → x = b) := fun h1 h2 => torn_eq (k := i) HOL.out BL.out XL.out XB.out h1 h2 M4.out M8.out N1.out N2.out c63 (by
                rw [← hx.out]
                unfold tornK
                split
                · exact .inr rfl
                · exact .inl rfl)
              by_cases hw : wholeP x
              · have HC := Lib.hid (mark_yes x XL.out XB.out hw wr)
                have HXE : Hid (genP x = (g : Int) → x = b) := XE.out hw
                clear hw XE
                go_upto_region 17 with (fail)
                refine lin_begin (opsOf Tryd.f5 17) (by kernel_rfl) ?_
                refine lin_load 0 37 (.tmp 19) (r) _ (ints .u8 x) (some 80) (by kernel_rfl) (by kernel_rfl) (by kernel_rfl) (by kernel_rfl) Z.out _ Tryd.underlying37 rfl IX.out ?_
                refine lin_call 1 17 #[.agg (ints .u8 x).toArray] (some 81) _ (by kernel_rfl) (by kernel_rfl) (by kernel_rfl) (HC.out) ?_
                rintro e w10 ⟨rfl, hb10⟩
                refine ⟨_, rfl, ?_⟩
                refine lin_now 2 (.tuple #[.int .i64 (genP x), .int .i64 (numP x), .bool true]) (some 79) (by kernel_rfl) (by kernel_rfl) (by kernel_rfl) ?_
                refine lin_now 3 (.int .i64 (genP x)) (some 82) (by kernel_rfl) (by kernel_rfl) (by kernel_rfl) ?_
                refine lin_now 4 (.int .i64 (numP x)) (some 83) (by kernel_rfl) (by kernel_rfl) (by kernel_rfl) ?_
                refine lin_now 5 (.bool true) (some 84) (by kernel_rfl) (by kernel_rfl) (by kernel_rfl) ?_
                refine lin_now 6 (.int .i64 (genP x)) (some 21) (by kernel_rfl) (by kernel_rfl) (by kernel_rfl) ?_
                refine lin_now 7 (.int .i64 (numP x)) (some 22) (by kernel_rfl) (by kernel_rfl) (by kernel_rfl) ?_
                refine lin_now 8 (.bool true) (some 23) (by kernel_rfl) (by kernel_rfl) (by kernel_rfl) ?_
                refine lin_done 9 (by kernel_rfl) ?_
                have Z10 := Lib.hid (Z.out.below hb10 Z.out.lt)
                have Y10 := Lib.hid (Y.out.below hb10 Y.out.lt)
                have BE10 : Hid (Below B w w10) := BE.out.trans (hb10.mono (by have := BE.out.size; have := hB.out; omega))
                clear hb10 Z Y BE HC
                generalize hact : Act.put _ (some 23) _ = act
                simp only [Act.put, List.setIfInBounds_toArray, List.set_cons_succ, List.set_cons_zero] at hact
                subst hact
                by_cases hgx : genP x = (g : Int)
                · obtain rfl := HXE.out hgx
                  have q5 : (genP x != (g : Int)) = false := by rw [hgx]; simp
                  have HG := Lib.hid hgx
                  clear hgx HXE
                  go_upto_region 18 with (fail)
                  refine lin_begin (opsOf Tryd.f5 18) (by kernel_rfl) ?_
                  refine lin_now 0 (.bool true) (some 85) (by kernel_rfl) (by kernel_rfl) (by kernel_rfl) ?_
                  refine lin_now 1 (.bool false) (some 86) (by kernel_rfl) (by kernel_rfl) (by kernel_rfl) ?_
                  refine lin_now 2 (.bool false) (some 87) (by kernel_rfl) (by kernel_rfl) (by kernel_rfl) ?_
                  refine lin_now 3 (.int .i64 (genP x)) (some 88) (by kernel_rfl) (by kernel_rfl) (by kernel_rfl) ?_
                  refine lin_now 4 (.int .i64 (g : Int)) (some 89) (by kernel_rfl) (by kernel_rfl) (by kernel_rfl) ?_
                  refine lin_now 5 (.bool (genP x != (g : Int))) (some 90) (by kernel_rfl) (by kernel_rfl) (by kernel_rfl) ?_
                  rw [q5]
                  refine lin_now 6 (.bool false) (some 91) (by kernel_rfl) (by kernel_rfl) (by kernel_rfl) ?_
                  refine lin_now 7 (.bool false) (some 92) (by kernel_rfl) (by kernel_rfl) (by kernel_rfl) ?_
                  refine lin_load 8 37 (.tmp 19) (r) _ (ints .u8 x) (some 93) (by kernel_rfl) (by kernel_rfl) (by kernel_rfl) (by kernel_rfl) Z10.out _ Tryd.underlying37 rfl IX.out ?_
                  refine lin_load 9 37 (.tmp 17) (q) _ (ints .u8 x) (some 94) (by kernel_rfl) (by kernel_rfl) (by kernel_rfl) (by kernel_rfl) Y10.out _ Tryd.underlying37 rfl IX.out ?_
                  refine lin_now 10 (.bool (decide (x = x))) (some 95) (by kernel_rfl) (by kernel_rfl) (exec_eql w10 (.tmp 93) (.tmp 94) 37 (by kernel_rfl) Tryd.underlying37 Tryd.underlying5 size1Byte eqGuardBlk x x XL.out XL.out (by kernel_rfl) (by kernel_rfl)) ?_
                  rw [decide_eq_true rfl]
                  refine lin_now 11 (.bool true) (some 96) (by kernel_rfl) (by kernel_rfl) (by kernel_rfl) ?_
                  refine lin_now 12 (.bool true) (some 14) (by kernel_rfl) (by kernel_rfl) (by kernel_rfl) ?_
                  refine lin_done 13 (by kernel_rfl) ?_
                  generalize hact : Act.put _ (some 14) _ = act
                  simp only [Act.put, List.setIfInBounds_toArray, List.set_cons_succ, List.set_cons_zero] at hact
                  subst hact
                  go_wp2
                  go_ret
                  exact ⟨rfl, BE10.out⟩
                · have q5 : (genP x != (g : Int)) = true := by simpa using hgx
                  clear hgx HXE
                  go_wp2
                  go_ret
                  exact ⟨rfl, BE10.out⟩
              · have HC := Lib.hid (mark_no x XL.out XB.out hw wr)
                clear hw XE
                go_upto_region 17 with (fail)
                refine lin_begin (opsOf Tryd.f5 17) (by kernel_rfl) ?_
                refine lin_load 0 37 (.tmp 19) (r) _ (ints .u8 x) (some 80) (by kernel_rfl) (by kernel_rfl) (by kernel_rfl) (by kernel_rfl) Z.out _ Tryd.underlying37 rfl IX.out ?_
                refine lin_call 1 17 #[.agg (ints .u8 x).toArray] (some 81) _ (by kernel_rfl) (by kernel_rfl) (by kernel_rfl) (HC.out) ?_
                rintro e w10 ⟨rfl, hb10⟩
                refine ⟨_, rfl, ?_⟩
                refine lin_now 2 (.tuple #[.int .i64 0, .int .i64 0, .bool false]) (some 79) (by kernel_rfl) (by kernel_rfl) (by kernel_rfl) ?_
                refine lin_now 3 (.int .i64 0) (some 82) (by kernel_rfl) (by kernel_rfl) (by kernel_rfl) ?_
                refine lin_now 4 (.int .i64 0) (some 83) (by kernel_rfl) (by kernel_rfl) (by kernel_rfl) ?_
                refine lin_now 5 (.bool false) (some 84) (by kernel_rfl) (by kernel_rfl) (by kernel_rfl) ?_
                refine lin_now 6 (.int .i64 0) (some 21) (by kernel_rfl) (by kernel_rfl) (by kernel_rfl) ?_
                refine lin_now 7 (.int .i64 0) (some 22) (by kernel_rfl) (by kernel_rfl) (by kernel_rfl) ?_
                refine lin_now 8 (.bool false) (some 23) (by kernel_rfl) (by kernel_rfl) (by kernel_rfl) ?_
                refine lin_done 9 (by kernel_rfl) ?_
                have Z10 := Lib.hid (Z.out.below hb10 Z.out.lt)
                have Y10 := Lib.hid (Y.out.below hb10 Y.out.lt)
                have BE10 : Hid (Below B w w10) := BE.out.trans (hb10.mono (by have := BE.out.size; have := hB.out; omega))
                clear hb10 Z Y BE HC
                generalize hact : Act.put _ (some 23) _ = act
                simp only [Act.put, List.setIfInBounds_toArray, List.set_cons_succ, List.set_cons_zero] at hact
                subst hact
                go_wp2
                go_ret
                exact ⟨rfl, BE10.out⟩
  · have HOK := Lib.hid hok
    clear hok
    go_wp2_with fail
    refine (pack_no gen num ua n uc _ HOK.out).mono ?_
    rintro e w3 ⟨rfl, rfl⟩
    go_wp2
    go_ret
    exact ⟨rfl, BE2.out⟩
end Go.Proofs.YtaeghgnhpgkcdaaDoor
