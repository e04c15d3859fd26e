/- The reference of layer 4: four, Need, number. -/
import Derived.Test.YtaeghgnhpgkcdaaDoorSealJ
import Derived.Test.YtaeghgnhpgkcdaaDoorShaRefSu
import Derived.Maps.AppendAt
namespace Go.Proofs.YtaeghgnhpgkcdaaDoor
open Go Go.RowKit
set_option maxRecDepth 100000

theorem rlneed_walk (n : Int) (w : World) : Calls Tryd.prog 15 #[.int .i64 n] w fun e w' => e = .returned (.int .i64 (needI n)) ∧ w = w' := by
  by_cases h : n < 0 ∨ 2000 < n
  · rw [needI_no n h]
    go_enter Tryd.func15, Tryd.ntmps15
    rcases h with h | h
    · go_wp2
      go_ret
      exact ⟨rfl, rfl⟩
    · have h' : ¬ n < 0 := by omega
      go_wp2
      go_ret
      exact ⟨rfl, rfl⟩
  · have e : needI n = (n + 79) / 46 := if_neg h
    rw [e]
    have h1 : ¬ n < 0 := by omega
    have h2 : ¬ 2000 < n := by omega
    have h3 : 0 ≤ n := by omega
    have h4 : n ≤ 2000 := by omega
    clear e h
    go_enter Tryd.func15, Tryd.ntmps15
    go_wp2
    go_ret
    exact ⟨ret_int (by omega), rfl⟩
set_option maxHeartbeats 1000000 in
theorem rlnumber_walk (a : Option Addr) (k cap : Nat) (zs : List Int) (w : World) (hv : BytesIn w (.slice a k cap) zs) (hl : zs.length = k) (hb : isBytes zs) (hk : k ≤ 4) :
    Calls Tryd.prog 36 #[.slice a k cap] w fun e w' => e = .returned (.int .i64 (numB zs)) ∧ w = w' := by
  have HV := Lib.hid hv
  have HL := Lib.hid hl
  have HB := Lib.hid hb
  clear hv hl hb
  go_enter Tryd.func36, Tryd.ntmps36
  go_wp2
  go_loop [3, 4] (fun n i => ∃ (j : Nat) (z : Int), j ≤ k ∧ i = .int .i64 (j : Int) ∧ n = .int .i64 z ∧ Hid (z = numB (zs.take j))) (fun _ i => k - (intOf i).toNat)
  case atStart => exact ⟨0, 0, Nat.zero_le _, rfl, rfl, rfl⟩
  case round =>
    obtain ⟨j, z, hj, rfl, rfl, hz⟩ := hrel
    have hz0 := numB_range (bytes_take HB.out j)
    have hpow : (256 : Int) ^ (zs.take j).length ≤ 256 ^ 4 := by
      have := HL.out
      exact_mod_cast Nat.pow_le_pow_right (show 0 < 256 by decide) (show (zs.take j).length ≤ 4 by rw [List.length_take]; omega)
    rw [← hz.out] at hz0
    by_cases hlt : j < k
    · have q1 : (j : Int) < (k : Int) := by omega
      have z0 : 0 ≤ z := hz0.1
      have z1 : z < 4294967296 := by omega
      have hx : zs[j]? = some (zs.getD j 0) := by
        rw [List.getD_eq_getElem?_getD, List.getElem?_eq_getElem (by rw [HL.out]; exact hlt)]; rfl
      obtain ⟨a', c', e', -, hp⟩ := HV.out
      obtain ⟨rfl, -, -⟩ := Value.slice.inj e'
      obtain ⟨pb, po, rfl, -, hr⟩ := hp (by rw [HL.out]; omega)
      have c0 := hr j _ (ints_get hx)
      have bx := HB.out (zs.getD j 0) (List.mem_of_getElem? hx)
      have HN : Hid (z * 256 + zs.getD j 0 = numB (zs.take (j + 1))) := by
        unfold Hid
        rw [List.take_add_one, hx, Option.toList_some, numB_snoc, hz.out]
      generalize zs.getD j 0 = x at *
      have b0 := bx.1
      have b1 := bx.2
      clear hx bx hpow hz0 hr hp e'
      go_wp2
      refine ⟨⟨j + 1, z * 256 + x, by omega, by go_num, ?_, HN⟩, by simp [intOf]; omega⟩
      rw [Int.mul_comm 256 z]
    · have q1 : ¬ (j : Int) < (k : Int) := by omega
      clear hpow hz0
      go_wp2
      go_ret
      refine ⟨ret_int ?_, rfl⟩
      rw [hz.out, List.take_of_length_le (by have := HL.out; omega)]
theorem beB_four (n : Nat) (hn : n < 4294967296) : beB 4 n = [(n : Int) / 16777216, (n : Int) / 65536 % 256, (n : Int) / 256 % 256, (n : Int) % 256] := by
  simp only [beB, List.nil_append, List.cons_append]
  congr 1
  · omega
  · congr 1
    · omega
theorem beB_two (n : Nat) (hn : n < 256) : beB 2 n = [0, (n : Int) % 256] := by
  simp only [beB, List.nil_append, List.cons_append]
  congr 1
  · omega
set_option maxHeartbeats 1000000 in
theorem rlfour_walk (n : Nat) (hn : n < 4294967296) (w : World) : Calls Tryd.prog 45 #[.int .i64 (n : Int)] w (CopyPost (beB 4 n) w) := by
  have q0 : 0 ≤ (n : Int) := by omega
  have q1 : (n : Int) < 4294967296 := by omega
  go_enter Tryd.func45, Tryd.ntmps45
  go_wp2
  go_ret
  refine ⟨_, rfl, ?_, (Below.refl _ _).alloc (Nat.le_refl _) _⟩
  rw [beB_four n hn]
  exact ⟨rfl, Or.inr ⟨w.heap.size, 4, _, rfl, Nat.le_refl _, heap_alloc_last w _, Nat.le_refl _, by unfold maxLen; omega, rfl, rfl⟩⟩
end Go.Proofs.YtaeghgnhpgkcdaaDoor
/- The reference of layer 4: sector, Pack. -/
namespace Go.Proofs.YtaeghgnhpgkcdaaDoor
open Go Go.RowKit
set_option maxRecDepth 100000

theorem own_below {w w' : World} {base n : Nat} {v : Value} {xs : List Value} (h : w.ownsRow base 5 1 v n xs) (hb : Below w.heap.size w w') : w'.ownsRow base 5 1 v n xs :=
  own_step (F := []) (F' := []) h (Step.of_below hb (Nat.le_refl _)) (fun g _ => by simp)
theorem own_base {w : World} {base base' n : Nat} {v : Value} {xs : List Value} (h : w.ownsRow base 5 1 v n xs) (hb : base' ≤ base) : w.ownsRow base' 5 1 v n xs := by
  refine ⟨h.1, ?_⟩
  rcases h.2 with h1 | ⟨g, cap, cur, e, h2, h3⟩
  · exact .inl h1
  · exact .inr ⟨g, cap, cur, e, Nat.le_trans hb h2, h3⟩
theorem grown_in {w w' : World} {u v : Value} {zs : List Int} (h : BytesIn w u zs) (hg : w.grownBy w' v.ownBlock) (hne : ∀ pb po l c, u = .slice (some ⟨pb, po, none⟩) l c → v.ownBlock ≠ some pb) : BytesIn w' u zs := by
  obtain ⟨a, cap, h1, h2, h3⟩ := h
  refine ⟨a, cap, h1, h2, fun hp => ?_⟩
  obtain ⟨pb, po, h4, h5, h6⟩ := h3 hp
  have hn := hne pb po zs.length cap (by rw [h1, h4])
  exact ⟨pb, po, h4, Nat.lt_of_lt_of_le h5 hg.size, fun j u hu => by
    rw [World.cell?_of_block (w := w) (a := ⟨pb, po + j, none⟩) (hg.block pb h5 (fun e => hn e.symm))]; exact h6 j u hu⟩
/-- append(dst, src...), and where the result lies. -/
theorem lin_appendb2 {ops : Array Oper} {Q : Exit → Act → World → Prop} {a : Act} {w : World} (i : Nat) (d : Option Tmp) (hi : (ops[i]?.isSome) = true) (hgd : (opAt ops i).guard = none) (hd : (opAt ops i).dst = d) (s x : Operand)
    (ho : (opAt ops i).op = .call { callee := .builtin .append, args := #[s, x], argTypes := #[22, 22] }) (base : Nat) (v : Value) (xs : List Int) (hs : a.eval s = v) (hown : w.ownsRow base 5 1 v xs.length (ints .u8 xs))
    (u : Value) (zs : List Int) (hx : a.eval x = u) (hu : BytesIn w u zs) (hnil : NilOk u) (hb : xs.length + zs.length ≤ 70368744177664) (hbase : base ≤ w.heap.size)
    (h : ∀ v' w', w'.ownsRow base 5 1 v' (xs ++ zs).length (ints .u8 (xs ++ zs)) → w.grownBy w' v.ownBlock → (v'.ownBlock = v.ownBlock ∨ v'.ownBlock = some w.heap.size) → wpFrom Tryd.prog ops Q (i + 1) (a.put d v') w') : wpFrom Tryd.prog ops Q i a w := by
  subst hd
  refine ⟨?_⟩
  rw [drop_opAt hi]
  obtain ⟨i0, hi0, hz0, hz1, hz2⟩ := info_parts infoByte5
  obtain ⟨sa, c, rfl, hc, hp⟩ := hu
  cases sa with
  | none =>
    obtain ⟨h1, h2⟩ := hnil
    subst h2
    have hz : zs = [] := List.eq_nil_of_length_eq_zero h1
    subst hz
    refine wpList_append_own_none hgd s x 22 ho base 5 i0 1 Tryd.underlying22 hi0 v _ _ hs hown (by rw [hx]; rfl) ?_
    rw [List.append_nil] at h
    exact (h v w hown ⟨rfl, rfl, rfl, Nat.le_refl _, fun _ _ _ => rfl⟩ (.inl rfl)).out
  | some ad =>
    refine wpList_append_own_at w hgd s x 22 ho base 5 i0 (.int .u8 0) 1 1 Tryd.underlying22 hi0 hz0 hz1 hz2 rfl (by decide) v _ _ hs hown ad zs.length c (ints .u8 zs) hx (by rw [ints_length]; omega) ?_ (ints_one _ _) (by unfold maxLen; omega) (by omega) hbase ?_
    · intro j u hj
      have hl : j < zs.length := by have := (List.getElem?_eq_some_iff.1 hj).1; rwa [ints_length] at this
      obtain ⟨pb, po, e, _, hr⟩ := hp (by omega)
      obtain rfl := Option.some.inj e
      rw [Addr.add_mid]
      exact hr j u hj
    · intro v' w' h1 h2 _ h4
      refine (h v' w' ?_ h2 h4).out
      rw [List.length_append]
      simpa [ints] using h1
/-- Bytes m that lie apart from what v owns. -/
structure Sep (w : World) (v m : Value) (mk : List Int) : Prop where
  by' : BytesIn w m mk
  ni : NilOk m
  ne : ∀ pb, m.ownBlock = some pb → v.ownBlock ≠ some pb ∧ pb < w.heap.size
theorem Sep.grown {w w' : World} {v v' m : Value} {mk : List Int} (h : Sep w v m mk) (hg : w.grownBy w' v.ownBlock) (ha : v'.ownBlock = v.ownBlock ∨ v'.ownBlock = some w.heap.size) : Sep w' v' m mk := by
  refine ⟨grown_in h.by' hg (fun pb po l c e => (h.ne pb (by rw [e]; rfl)).1), h.ni, fun pb hpb => ?_⟩
  obtain ⟨h1, h2⟩ := h.ne pb hpb
  refine ⟨fun e => ?_, Nat.lt_of_lt_of_le h2 hg.size⟩
  rcases ha with h3 | h3
  · exact h1 (h3 ▸ e)
  · rw [h3] at e
    have := Option.some.inj e
    omega
theorem Sep.below {w w' : World} {v m : Value} {mk : List Int} (h : Sep w v m mk) (hb : Below w.heap.size w w') : Sep w' v m mk :=
  ⟨h.by'.below hb (Nat.le_refl _), h.ni, fun pb hpb => ⟨(h.ne pb hpb).1, Nat.lt_of_lt_of_le (h.ne pb hpb).2 hb.size⟩⟩
theorem set_take {s z : List Int} {i : Nat} (hs : s.length = 64) (hz : z.length = 64) (hi : i < 64) : (s.take i ++ z.drop i).set i (s.getD i 0) = s.take (i + 1) ++ z.drop (i + 1) := by
  have hx : s[i]? = some (s.getD i 0) := by rw [List.getD_eq_getElem?_getD, List.getElem?_eq_getElem (by omega)]; rfl
  rw [List.set_append_right _ _ (by rw [List.length_take]; omega), List.length_take, show i - min i s.length = 0 by omega, List.take_add_one, hx, List.drop_eq_getElem_cons (show i < z.length by omega), List.set_cons_zero, Option.toList_some, List.append_assoc, List.singleton_append]
def sliceLen : Value → Nat
  | .slice _ n _ => n
  | _ => 0
theorem buildZero (w : World) : (Instr.build 37 #[]).run Tryd.prog w = .ok (.agg (ints .u8 zB).toArray) w := by kernel_rfl
set_option maxHeartbeats 4000000 in
theorem rlsector_walk (gen num : Nat) (u : Value) (data : List Int) (hg : gen < 4294967296) (hm : num < 4294967296) (w : World) (hd : BytesIn w u data) (hnil : NilOk u) (hl : data.length ≤ 46) :
    Calls Tryd.prog 30 #[.int .i64 (gen : Int), .int .i64 (num : Int), u] w fun e w' => e = .returned (.agg (ints .u8 (sectorP (markP gen num) data)).toArray) ∧ Below w.heap.size w w' := by
  obtain ⟨da, dc, rfl, -⟩ := id hd
  have HD := Lib.hid hd
  have HDN := Lib.hid hnil
  obtain ⟨n, hn⟩ : ∃ n, Hid (data.length = n) := ⟨_, rfl⟩
  rw [hn.out] at HD HDN hl ⊢
  obtain ⟨s, hs⟩ : ∃ s, Hid (sectorP (markP gen num) data = s) := ⟨_, rfl⟩
  have HS : Hid (s.length = 64) := by unfold Hid; rw [← hs.out]; exact sectorP_length (markP_length _ _) (by rw [hn.out]; exact hl)
  have IS : Hid ((Tryd.prog.info? 37).map (·.size) = some (ints .u8 s).length) := infoBlk s HS.out
  rw [hs.out]
  obtain ⟨B, hB⟩ : ∃ B, Hid (w.heap.size = B) := ⟨_, rfl⟩
  rw [hB.out]
  clear hd hnil
  go_enter Tryd.func30, Tryd.ntmps30
  go_upto_region 0 with (fail)
  refine lin_begin (opsOf Tryd.f30 0) (by kernel_rfl) ?_
  refine lin_alloc 0 37 (ints .u8 zB) (B) (some 6) (by kernel_rfl) (by kernel_rfl) (by kernel_rfl) zeroBlk hB ?_
  intro w1 b1 be1 hs1
  refine lin_done 1 (by kernel_rfl) ?_
  have R1 := Lib.hid b1
  have BE1 := Lib.hid be1
  clear b1 be1
  generalize hact : Act.put _ (some 6) _ = act
  simp only [Act.put, List.setIfInBounds_toArray, List.set_cons_succ, List.set_cons_zero] at hact
  subst hact
  go_upto_region 1 with (fail)
  refine lin_begin (opsOf Tryd.f30 1) (by kernel_rfl) ?_
  refine lin_now 0 (.int .i64 (gen : Int)) (some 11) (by kernel_rfl) (by kernel_rfl) (by kernel_rfl) ?_
  refine lin_call 1 45 #[.int .i64 (gen : Int)] (some 12) _ (by kernel_rfl) (by kernel_rfl) (by kernel_rfl) (rlfour_walk gen hg _) ?_
  rintro e w2 ⟨v2, rfl, ho2, hb2⟩
  refine ⟨_, rfl, ?_⟩
  refine lin_now 2 (.int .i64 (num : Int)) (some 13) (by kernel_rfl) (by kernel_rfl) (by kernel_rfl) ?_
  refine lin_call 3 45 #[.int .i64 (num : Int)] (some 14) _ (by kernel_rfl) (by kernel_rfl) (by kernel_rfl) (rlfour_walk num hm _) ?_
  rintro e w3 ⟨v3, rfl, ho3, hb3⟩
  refine ⟨_, rfl, ?_⟩
  have z1 : B + 1 ≤ w1.heap.size := Nat.le_of_eq hs1.out.symm
  have z2 := Nat.le_trans z1 hb2.size
  have z3 := Nat.le_trans z2 hb3.size
  have R3 : Blk w3 B 37 (ints .u8 zB) := (R1.out.below hb2 R1.out.lt).below hb3 (R1.out.below hb2 R1.out.lt).lt
  have BE3 : Below B w w3 := (BE1.out.trans (hb2.mono (by omega))).trans (hb3.mono (by omega))
  refine lin_appendb 4 (some 15) (by kernel_rfl) (by kernel_rfl) (by kernel_rfl) (.tmp 12) (.tmp 14) (by kernel_rfl) (B + 1) v2 (beB 4 gen) (by kernel_rfl) (own_base (own_below ho2 hb3) z1) v3 (beB 4 num) (by kernel_rfl) (owns_bytes ho3) (owns_nilok ho3) (by rw [beB_length, beB_length]; omega) z3 ?_
  intro v4 w4 ho4 hg4
  refine lin_now 5 (v4) (some 7) (by kernel_rfl) (by kernel_rfl) (by kernel_rfl) ?_
  refine lin_done 6 (by kernel_rfl) ?_
  have R4 : Hid (Blk w4 B 37 (ints .u8 zB)) := by
    unfold Hid Blk
    rw [hg4.block B R3.lt (fun e => by have := owns_row ho2 B e.symm; omega)]
    exact R3
  have BE4 : Hid (Below B w w4) := BE3.grown hg4 (by omega) (fun k hk => by have := owns_row ho2 k hk; omega)
  have O4 : Hid (w4.ownsRow (B + 1) 5 1 v4 (markP gen num).length (ints .u8 (markP gen num))) := ho4
  have S4 : Hid (B + 1 ≤ w4.heap.size) := Nat.le_trans z3 hg4.size
  clear ho2 hb2 ho3 hb3 z1 z2 z3 R3 BE3 ho4 hg4 R1 BE1 hs1
  generalize hact : Act.put _ (some 7) _ = act
  simp only [Act.put, List.setIfInBounds_toArray, List.set_cons_succ, List.set_cons_zero] at hact
  subst hact
  obtain ⟨mk, hmk⟩ : ∃ mk, Hid (markP gen num = mk) := ⟨_, rfl⟩
  have ML : Hid (mk.length = 8) := by unfold Hid; rw [← hmk.out]; exact markP_length _ _
  rw [hmk.out] at O4
  go_upto_region 2 with (fail)
  refine lin_begin (opsOf Tryd.f30 2) (by kernel_rfl) ?_
  refine lin_now 0 (v4) (some 16) (by kernel_rfl) (by kernel_rfl) (by kernel_rfl) ?_
  refine lin_call 1 9 #[v4] (some 17) _ (by kernel_rfl) (by kernel_rfl) (by kernel_rfl) (copyb_walk v4 mk _ (owns_bytes O4.out) (owns_nilok O4.out) (by rw [ML.out]; omega)) ?_
  rintro e w5 ⟨v5, rfl, ho5, hb5⟩
  refine ⟨_, rfl, ?_⟩
  refine lin_now 2 (v5) (some 8) (by kernel_rfl) (by kernel_rfl) (by kernel_rfl) ?_
  refine lin_done 3 (by kernel_rfl) ?_
  have R5 := Lib.hid (R4.out.below hb5 R4.out.lt)
  have BE5 : Hid (Below B w w5) := BE4.out.trans (hb5.mono (by have := S4.out; omega))
  have O5 := Lib.hid (own_below O4.out hb5)
  have S5 : Hid (B + 1 ≤ w5.heap.size) := Nat.le_trans S4.out hb5.size
  have M5 : Hid (Sep w5 v4 v5 mk) := ⟨owns_bytes ho5, owns_nilok ho5, fun pb hpb => ⟨fun e => by have h1 := owns_row ho5 pb hpb; have h2 := owns_lt O4.out pb e; omega, owns_lt ho5 pb hpb⟩⟩
  clear R4 BE4 O4 S4 ho5 hb5
  generalize hact : Act.put _ (some 8) _ = act
  simp only [Act.put, List.setIfInBounds_toArray, List.set_cons_succ, List.set_cons_zero] at hact
  subst hact
  obtain ⟨q5, hq5⟩ : ∃ q, Hid (w5.heap.size = q) := ⟨_, rfl⟩
  go_upto_region 3 with (fail)
  refine lin_begin (opsOf Tryd.f30 3) (by kernel_rfl) ?_
  refine lin_now 0 (v4) (some 18) (by kernel_rfl) (by kernel_rfl) (by kernel_rfl) ?_
  refine lin_now 1 (.slice da n dc) (some 19) (by kernel_rfl) (by kernel_rfl) (by kernel_rfl) ?_
  refine lin_now 2 (.int .i64 (n : Int)) (some 20) (by kernel_rfl) (by kernel_rfl) (by kernel_rfl) ?_
  refine lin_now 3 (.int .u8 ((n : Int) % 256)) (some 21) (by kernel_rfl) (by kernel_rfl) (by kernel_rfl) ?_
  refine lin_newrow 4 5 (ints .u8 [0, (n : Int) % 256]) q5 2 (some 22) (by kernel_rfl) (by kernel_rfl) hq5 (by kernel_rfl) ?_
  intro w6 b6 be6 hs6
  rw [← beB_two n (by omega)] at b6
  have bb : Below w5.heap.size w5 w6 := by rw [hq5.out]; exact be6
  refine lin_appendb2 5 (some 23) (by kernel_rfl) (by kernel_rfl) (by kernel_rfl) (.tmp 18) (.tmp 22) (by kernel_rfl) (B + 1) v4 mk (by kernel_rfl) (own_below O5.out bb) (.slice (some ⟨q5, 0, none⟩) 2 2) (beB 2 n) (by kernel_rfl) (bytes_blk b6 (beB_length _ _)) trivial (by rw [ML.out, beB_length]; omega) (by have := S5.out; have := bb.size; omega) ?_
  intro v7 w7 ho7 hg7 hat7
  refine lin_now 6 (v7) (some 7) (by kernel_rfl) (by kernel_rfl) (by kernel_rfl) ?_
  refine lin_done 7 (by kernel_rfl) ?_
  have R7 : Hid (Blk w7 B 37 (ints .u8 zB)) := by
    have r6 : Blk w6 B 37 (ints .u8 zB) := R5.out.below bb R5.out.lt
    unfold Hid Blk
    rw [hg7.block B r6.lt (fun e => by have := owns_row O5.out B e.symm; omega)]
    exact r6
  have BE7 : Hid (Below B w w7) := (BE5.out.trans (bb.mono (by have := S5.out; omega))).grown hg7 (by have := S5.out; have := bb.size; omega) (fun k hk => by have := owns_row O5.out k hk; omega)
  have M7 : Hid (Sep w7 v7 v5 mk) := (M5.out.below bb).grown hg7 hat7
  have S7 : Hid (B + 1 ≤ w7.heap.size) := by unfold Hid; have := S5.out; have := bb.size; have := hg7.size; omega
  have O7 := Lib.hid ho7
  clear R5 BE5 O5 S5 M5 ho7 hg7 hat7
  clear b6 be6 hs6 bb hq5
  generalize hact : Act.put _ (some 7) _ = act
  simp only [Act.put, List.setIfInBounds_toArray, List.set_cons_succ, List.set_cons_zero] at hact
  subst hact
  have D7 : Hid (BytesIn w7 (.slice da n dc) data) := HD.out.below BE7.out (Nat.le_of_eq hB.out)
  go_upto_region 4 with (fail)
  refine lin_begin (opsOf Tryd.f30 4) (by kernel_rfl) ?_
  refine lin_now 0 (v7) (some 24) (by kernel_rfl) (by kernel_rfl) (by kernel_rfl) ?_
  refine lin_now 1 (.slice da n dc) (some 25) (by kernel_rfl) (by kernel_rfl) (by kernel_rfl) ?_
  refine lin_appendb2 2 (some 26) (by kernel_rfl) (by kernel_rfl) (by kernel_rfl) (.tmp 24) (.tmp 25) (by kernel_rfl) (B + 1) v7 (mk ++ beB 2 n) (by kernel_rfl) O7.out _ data (by kernel_rfl) D7.out HDN.out (by rw [List.length_append, ML.out, beB_length, hn.out]; omega) S7.out ?_
  intro v8 w8 ho8 hg8 hat8
  refine lin_now 3 (v8) (some 7) (by kernel_rfl) (by kernel_rfl) (by kernel_rfl) ?_
  refine lin_done 4 (by kernel_rfl) ?_
  have R8 : Hid (Blk w8 B 37 (ints .u8 zB)) := by
    have r6 : Blk w7 B 37 (ints .u8 zB) := R7.out
    unfold Hid Blk
    rw [hg8.block B r6.lt (fun e => by have := owns_row O7.out B e.symm; omega)]
    exact r6
  have BE8 : Hid (Below B w w8) := (BE7.out).grown hg8 (by have := S7.out; omega) (fun k hk => by have := owns_row O7.out k hk; omega)
  have M8 : Hid (Sep w8 v8 v5 mk) := (M7.out).grown hg8 hat8
  have S8 : Hid (B + 1 ≤ w8.heap.size) := by unfold Hid; have := S7.out; have := hg8.size; omega
  have O8 := Lib.hid ho8
  clear R7 BE7 O7 S7 M7 ho8 hg8 hat8
  clear D7
  generalize hact : Act.put _ (some 7) _ = act
  simp only [Act.put, List.setIfInBounds_toArray, List.set_cons_succ, List.set_cons_zero] at hact
  subst hact
  obtain ⟨hd8, hhd⟩ : ∃ l, Hid (mk ++ beB 2 n ++ data = l) := ⟨_, rfl⟩
  rw [hhd.out] at O8
  have HL8 : Hid (hd8.length = n + 10) := by unfold Hid; rw [← hhd.out, List.length_append, List.length_append, ML.out, beB_length, hn.out]; omega
  go_wp2
  go_loopw [7] (fun av wr => ∃ (j : Nat) (v9 : Value), j ≤ 46 - n ∧ v9 = av ∧ wr.ownsRow (B + 1) 5 1 v9 (hd8 ++ zeros j).length (ints .u8 (hd8 ++ zeros j)) ∧ Blk wr B 37 (ints .u8 zB) ∧ Below B w wr ∧ Sep wr v9 v5 mk ∧ B + 1 ≤ wr.heap.size) (fun av _ => 64 - (sliceLen av))
  case atStart => exact ⟨0, _, Nat.zero_le _, rfl, by rw [show zeros 0 = [] from rfl, List.append_nil]; exact O8.out, R8.out, BE8.out, M8.out, S8.out⟩
  case round =>
    obtain ⟨j, v9, hj, rfl, ho9, hr9, hb9, hm9, hs9⟩ := hrel
    have O9 := Lib.hid ho9
    have R9 := Lib.hid hr9
    have BE9 := Lib.hid hb9
    have M9 := Lib.hid hm9
    have S9 := Lib.hid hs9
    have LJ : Hid ((hd8 ++ zeros j).length = n + 10 + j) := by unfold Hid; rw [List.length_append, HL8.out, zeros_length]
    obtain ⟨sa, sc, e9, -⟩ := id (owns_bytes ho9)
    rw [LJ.out] at e9
    clear ho9 hr9 hb9 hm9 hs9 R8 BE8 M8 S8 O8
    subst e9
    by_cases hlt : j < 46 - n
    · have r1 : ((n + 10 + j : Nat) : Int) < 56 := by omega
      obtain ⟨q9, hq9⟩ : ∃ q, Hid (wr.heap.size = q) := ⟨_, rfl⟩
      go_upto_region 6 with (fail)
      refine lin_begin (opsOf Tryd.f30 6) (by kernel_rfl) ?_
      refine lin_now 0 (.slice sa (n + 10 + j) sc) (some 30) (by kernel_rfl) (by kernel_rfl) (by kernel_rfl) ?_
      refine lin_newrow 1 5 (ints .u8 [0]) q9 1 (some 31) (by kernel_rfl) (by kernel_rfl) hq9 (by kernel_rfl) ?_
      intro w10 b10 be10 hs10
      have bb : Below wr.heap.size wr w10 := by rw [hq9.out]; exact be10
      refine lin_appendb2 2 (some 32) (by kernel_rfl) (by kernel_rfl) (by kernel_rfl) (.tmp 30) (.tmp 31) (by kernel_rfl) (B + 1) _ (hd8 ++ zeros j) (by kernel_rfl) (own_below O9.out bb) (.slice (some ⟨q9, 0, none⟩) 1 1) [0] (by kernel_rfl) (bytes_blk b10 rfl) trivial (by rw [LJ.out]; simp; omega) (by have := S9.out; have := bb.size; omega) ?_
      intro v11 w11 ho11 hg11 hat11
      refine lin_now 3 (v11) (some 7) (by kernel_rfl) (by kernel_rfl) (by kernel_rfl) ?_
      refine lin_done 4 (by kernel_rfl) ?_
      have e11 : (hd8 ++ zeros j) ++ [0] = hd8 ++ zeros (j + 1) := by rw [List.append_assoc, show ([0] : List Int) = zeros 1 from rfl, ← zeros_add]
      rw [e11] at ho11
      have R11 : Hid (Blk w11 B 37 (ints .u8 zB)) := by
        have r6 : Blk w10 B 37 (ints .u8 zB) := R9.out.below bb R9.out.lt
        unfold Hid Blk
        rw [hg11.block B r6.lt (fun e => by have := owns_row O9.out B e.symm; omega)]
        exact r6
      have BE11 : Hid (Below B w w11) := (BE9.out.trans (bb.mono (by have := S9.out; omega))).grown hg11 (by have := S9.out; have := bb.size; omega) (fun k hk => by have := owns_row O9.out k hk; omega)
      have M11 : Hid (Sep w11 v11 v5 mk) := (M9.out.below bb).grown hg11 hat11
      have S11 : Hid (B + 1 ≤ w11.heap.size) := by unfold Hid; have := S9.out; have := bb.size; have := hg11.size; omega
      have O11 := Lib.hid ho11
      obtain ⟨sb, sd, e12, -⟩ := id (owns_bytes ho11)
      have LN : Hid ((hd8 ++ zeros (j + 1)).length = n + 10 + (j + 1)) := by unfold Hid; rw [List.length_append, HL8.out, zeros_length]
      rw [LN.out] at e12
      subst e12
      clear ho11 hg11 hat11 b10 be10 hs10 bb hq9 e11 R9 BE9 M9 S9 O9
      generalize hact : Act.put _ (some 7) _ = act
      simp only [Act.put, List.setIfInBounds_toArray, List.set_cons_succ, List.set_cons_zero] at hact
      subst hact
      go_wp2
      exact ⟨⟨j + 1, _, by omega, rfl, O11.out, R11.out, BE11.out, M11.out, S11.out⟩, by simp [sliceLen]; omega⟩
    · have r1 : ¬ (((n + 10 + j : Nat) : Int) < 56) := by omega
      obtain rfl : j = 46 - n := by omega
      go_upto_region 7 with (fail)
      refine lin_begin (opsOf Tryd.f30 7) (by kernel_rfl) ?_
      refine lin_now 0 (.slice sa (n + 10 + (46 - n)) sc) (some 33) (by kernel_rfl) (by kernel_rfl) (by kernel_rfl) ?_
      refine lin_now 1 (v5) (some 34) (by kernel_rfl) (by kernel_rfl) (by kernel_rfl) ?_
      refine lin_appendb2 2 (some 35) (by kernel_rfl) (by kernel_rfl) (by kernel_rfl) (.tmp 33) (.tmp 34) (by kernel_rfl) (B + 1) _ (hd8 ++ zeros (46 - n)) (by kernel_rfl) O9.out v5 mk (by kernel_rfl) M9.out.by' M9.out.ni (by rw [LJ.out, ML.out]; omega) S9.out ?_
      intro v12 w12 ho12 hg12 hat12
      refine lin_now 3 (v12) (some 7) (by kernel_rfl) (by kernel_rfl) (by kernel_rfl) ?_
      refine lin_done 4 (by kernel_rfl) ?_
      have e12 : (hd8 ++ zeros (46 - n)) ++ mk = s := by
        rw [← hs.out, ← hhd.out, hmk.out]
        unfold sectorP
        rw [hn.out]
        simp only [List.append_assoc]
      rw [e12] at ho12
      have R12 : Hid (Blk w12 B 37 (ints .u8 zB)) := by
        unfold Hid Blk
        rw [hg12.block B R9.out.lt (fun e => by have := owns_row O9.out B e.symm; omega)]
        exact R9.out
      have BE12 : Hid (Below B w w12) := BE9.out.grown hg12 (by have := S9.out; omega) (fun k hk => by have := owns_row O9.out k hk; omega)
      have S12 : Hid (B + 1 ≤ w12.heap.size) := by unfold Hid; have := S9.out; have := hg12.size; omega
      obtain ⟨sb, sd, e13, hsd, hsp⟩ := owns_bytes ho12
      obtain ⟨pb, po, rfl, hpb, hpr⟩ := hsp (by rw [HS.out]; omega)
      rw [HS.out] at e13
      subst e13
      have SR := Lib.hid hpr
      have SB := Lib.hid hpb
      clear ho12 hg12 hat12 e12 hsd hsp hpb hpr R9 BE9 M9 S9 O9
      generalize hact : Act.put _ (some 7) _ = act
      simp only [Act.put, List.setIfInBounds_toArray, List.set_cons_succ, List.set_cons_zero] at hact
      subst hact
      obtain ⟨r, hr⟩ : ∃ r, Hid (w12.heap.size = r) := ⟨_, rfl⟩
      go_upto_region 8 with (fail)
      refine lin_begin (opsOf Tryd.f30 8) (by kernel_rfl) ?_
      refine lin_now 0 (.agg (ints .u8 zB).toArray) (some 36) (by kernel_rfl) (by kernel_rfl) (exec_of (Instr.build 37 #[]) _ (by kernel_rfl) (buildZero w12)) ?_
      refine lin_alloc 1 37 (ints .u8 zB) (r) (some 9) (by kernel_rfl) (by kernel_rfl) (by kernel_rfl) zeroBlk hr ?_
      intro w13 b13 be13 hs13
      refine lin_put 2 37 (.tmp 9) (.tmp 36) (r) _ (ints .u8 zB) (ints .u8 zB) (by kernel_rfl) (by kernel_rfl) (by kernel_rfl) (by kernel_rfl) (by kernel_rfl) b13 (rfl) (infoBlk zB zB_length) (ints_oneCell _ _) ?_
      intro w14 b14 u14
      refine lin_done 3 (by kernel_rfl) ?_
      have rB : Hid (B + 1 ≤ r ∧ pb < r) := by unfold Hid; have := S12.out; have := hr.out; have := SB.out; omega
      have R14 : Hid (Blk w14 B 37 (ints .u8 zB)) := u14.blk (R12.out.below be13 (by have := rB.out; omega)) (by have := rB.out; omega)
      have Q14 : Hid (Blk w14 r 37 (ints .u8 (s.take 0 ++ zB.drop 0))) := by unfold Hid; rw [List.take_zero, List.nil_append, List.drop_zero]; exact b14
      have BE14 : Hid (Below B w w14) := u14.below (BE12.out.trans (be13.mono (by have := rB.out; omega))) (by have := rB.out; omega) (by have := hs13.out; have := rB.out; omega)
      have SR14 : Hid (w14.rangeAt pb po (ints .u8 s)) := fun j v hv => by
        have h1 := be13.cell (p := ⟨pb, po + j, none⟩) (by have := rB.out; simp only; omega)
        have h2 := u14.cell (p := ⟨pb, po + j, none⟩) (by have := hs13.out; have := rB.out; simp only; omega) (by have := rB.out; simp only; omega)
        rw [h2, h1]
        exact SR.out j v hv
      clear R12 BE12 S12 b13 be13 hs13 b14 u14 hr SR SB
      generalize hact : Act.put _ none _ = act
      simp only [Act.put, List.setIfInBounds_toArray, List.set_cons_succ, List.set_cons_zero] at hact
      subst hact
      go_wp2
      go_loopw [10] (fun iv wx => ∃ (i : Nat), i ≤ 64 ∧ iv = .int .i64 (i : Int) ∧ Blk wx B 37 (ints .u8 zB) ∧ Blk wx r 37 (ints .u8 (s.take i ++ zB.drop i)) ∧ Below B w wx ∧ wx.rangeAt pb po (ints .u8 s)) (fun iv _ => 64 - (intOf iv).toNat)
      case atStart => exact ⟨0, by omega, rfl, R14.out, Q14.out, BE14.out, SR14.out⟩
      case round =>
        obtain ⟨i, hi, rfl, hr1, hr2, hr3, hr4⟩ := hrel
        have RR := Lib.hid hr1
        have QQ := Lib.hid hr2
        have BB := Lib.hid hr3
        have SS := Lib.hid hr4
        clear hr1 hr2 hr3 hr4 R14 Q14 BE14 SR14
        by_cases hlt : i < 64
        · have r2 : (i : Int) < 64 := by omega
          have r0 : (0 : Int) ≤ (i : Int) := by omega
          have hx : s[i]? = some (s.getD i 0) := by rw [List.getD_eq_getElem?_getD, List.getElem?_eq_getElem (by rw [HS.out]; omega)]; rfl
          have c1 := SS.out i _ (ints_get (k := .u8) hx)
          have LQ : (s.take i ++ zB.drop i).length = 64 := by rw [List.length_append, List.length_take, List.length_drop, HS.out, zB_length]; omega
          obtain ⟨x0, hx0⟩ : ∃ x0, (s.take i ++ zB.drop i)[i]? = some x0 := ⟨_, List.getElem?_eq_getElem (by rw [LQ]; omega)⟩
          have c2 := QQ.out.cell (ints_get (k := .u8) hx0)
          have f2 := QQ.out.free i
          have HQ : Hid (Blk (wr.setCell ⟨r, i, none⟩ (.int .u8 (s.getD i 0))) r 37 (ints .u8 (s.take (i + 1) ++ zB.drop (i + 1)))) := by
            have h := QQ.out.set i (.int .u8 (s.getD i 0))
            rw [ints_set, set_take HS.out zB_length hlt] at h
            exact h
          have HR := Lib.hid (RR.out.other (a := ⟨r, i, none⟩) (by have := rB.out; simp only; omega) (.int .u8 (s.getD i 0)))
          have HE := Lib.hid (BB.out.setCell (p := ⟨r, i, none⟩) (by have := rB.out; simp only; omega) (.int .u8 (s.getD i 0)))
          have HSS : Hid ((wr.setCell ⟨r, i, none⟩ (.int .u8 (s.getD i 0))).rangeAt pb po (ints .u8 s)) := fun j v hv => by
            rw [((Upd.refl r wr).setCell i (.int .u8 (s.getD i 0))).cell (p := ⟨pb, po + j, none⟩) (block_lt_of_cell (SS.out j v hv)) (by have := rB.out; simp only; omega)]
            exact SS.out j v hv
          clear hx hx0 LQ RR QQ BB SS
          generalize s.getD i 0 = y at *
          go_wp2
          exact ⟨⟨i + 1, by omega, by go_num, HR.out, HQ.out, HE.out, HSS.out⟩, by simp [intOf]; omega⟩
        · have r2 : ¬ (i : Int) < 64 := by omega
          have r3 : 64 ≤ (i : Int) := by omega
          have r4 : decide ((i : Int) < 64) = false := decide_eq_false (by omega)
          obtain rfl : i = 64 := by omega
          have e15 : s.take 64 ++ zB.drop 64 = s := by rw [List.take_of_length_le (by rw [HS.out]; omega), List.drop_eq_nil_of_le (by rw [zB_length]; omega), List.append_nil]
          rw [e15] at QQ
          clear e15
          go_upto_region 13 with (fail)
          refine lin_begin (opsOf Tryd.f30 13) (by kernel_rfl) ?_
          refine lin_load 0 37 (.tmp 9) (r) _ (ints .u8 s) (some 47) (by kernel_rfl) (by kernel_rfl) (by kernel_rfl) (by kernel_rfl) QQ.out _ Tryd.underlying37 rfl IS.out ?_
          refine lin_put 1 37 (.tmp 6) (.tmp 47) (B) _ (ints .u8 zB) (ints .u8 s) (by kernel_rfl) (by kernel_rfl) (by kernel_rfl) (by kernel_rfl) (by kernel_rfl) RR.out (by rw [ints_length, ints_length, HS.out, zB_length]) IS.out (ints_oneCell _ _) ?_
          intro w16 b16 u16
          refine lin_done 2 (by kernel_rfl) ?_
          have A16 := Lib.hid b16
          have BE16 := Lib.hid (u16.below BB.out (Nat.le_refl _) (by have := BB.out.size; have := hB.out; omega))
          clear b16 u16 RR QQ BB SS
          generalize hact : Act.put _ none _ = act
          simp only [Act.put, List.setIfInBounds_toArray, List.set_cons_succ, List.set_cons_zero] at hact
          subst hact
          go_wp2
          refine bodyPost_ret (v := .agg (ints .u8 (s)).toArray) ?_ rfl ⟨rfl, BE16.out⟩
          exact results_cell_row (g := B) (t := 37) (cs := (ints .u8 (s)).toArray) (fr := (0, 0)) Tryd.results30 _ _ _ rfl A16.out Tryd.underlying37 rfl (by rw [List.size_toArray]; exact IS.out)
end Go.Proofs.YtaeghgnhpgkcdaaDoor
/- The reference of layer 4: Pack. -/
namespace Go.Proofs.YtaeghgnhpgkcdaaDoor
open Go Go.RowKit
set_option maxRecDepth 100000

set_option maxHeartbeats 1000000 in
theorem rlpack_no (gen num : Int) (a : Option Addr) (n c : Nat) (w : World) (hno : ¬ okPack gen num n) :
    Calls Tryd.prog 11 #[.int .i64 gen, .int .i64 num, .slice a n c] w fun e w' => e = .returned (.tuple #[.slice none 0 0, .bool false]) ∧ w = w' := by
  by_cases hn : 2000 < n
  · have hz : needI (n : Int) = 0 := needI_no _ (.inr (by omega))
    have HZ := Lib.hid hz
    clear hz hno
    go_enter Tryd.func11, Tryd.ntmps11
    go_wp2_with fail
    refine (rlneed_walk _ _).mono ?_
    rintro e w' ⟨rfl, rfl⟩
    rw [HZ.out]
    go_wp2
    go_ret2
    exact ⟨rfl, rfl⟩
  · obtain ⟨k, hk⟩ : ∃ k, Hid (needN n = k) := ⟨_, rfl⟩
    have hz : needI (n : Int) = (k : Int) := (needI_nat n (by omega)).trans (by rw [hk.out])
    have HZ := Lib.hid hz
    have k1 : 1 ≤ k := by have := needN_pos n; rw [hk.out] at this; exact this
    have k45 : k ≤ 45 := by have := needN_le n (by omega); rw [hk.out] at this; exact this
    have hor : gen < 1 ∨ 4294967295 < gen ∨ num < 0 ∨ 4294967295 - ((k : Int) - 1) < num := by
      unfold okPack at hno
      rw [hk.out] at hno
      omega
    have q0 : ((k : Int) == 0) = false := by simpa using (show ¬ k = 0 by omega)
    clear hno hz hk
    go_enter Tryd.func11, Tryd.ntmps11
    go_wp2_with fail
    refine (rlneed_walk _ _).mono ?_
    rintro e w' ⟨rfl, rfl⟩
    rw [HZ.out]
    by_cases h1 : gen < 1
    · go_wp2
      go_ret2
      exact ⟨rfl, rfl⟩
    · by_cases h2 : 4294967295 < gen
      · go_wp2
        go_ret2
        exact ⟨rfl, rfl⟩
      · by_cases h3 : num < 0
        · go_wp2
          go_ret2
          exact ⟨rfl, rfl⟩
        · have h4 : 4294967295 - ((k : Int) - 1) < num := by omega
          clear hor
          go_wp2
          go_ret2
          exact ⟨rfl, rfl⟩
theorem exec_quo {P : Program} {a : Act} {w : World} {op : Oper} (ty ty2 : TypeId) (x y : Operand) (ho : op.op = .binOp .quo ty x y ty2) (p q : Int) (hx : a.eval x = .int .i64 p) (hy : a.eval y = .int .i64 q) (hq : q ≠ 0) : (execOp a.eval op).run P w = .ok (.value (.int .i64 (IntKind.i64.wrap (p.tdiv q)))) w := by
  unfold execOp
  simp only [ho, hx, hy, eqGuard_quo, binOp_quo, Op.intDiv]
  simp [hq]
theorem beB_two' (n : Nat) : beB 2 n = [((n / 256 : Nat) : Int) % 256, (n : Int) % 256] := by
  simp only [beB, List.nil_append, List.cons_append]
  congr 1
def RPackPost (l : List Int) (n : Nat) (w : World) (e : Ending) (w' : World) : Prop := ∃ v, e = .returned (.tuple #[v, .bool true]) ∧ OwnB w' w.heap.size v n l ∧ Below w.heap.size w w'
theorem OwnB.base {w : World} {b b' n : Nat} {v : Value} {l : List Int} (h : OwnB w b v n l) (hb : b' ≤ b) : OwnB w b' v n l := by
  refine ⟨h.1, ?_⟩
  rcases h.2 with h1 | ⟨g, cap, cur, e, h2, h3⟩
  · exact .inl h1
  · exact .inr ⟨g, cap, cur, e, Nat.le_trans hb h2, h3⟩
set_option maxHeartbeats 4000000 in
theorem rlpack_ok (gen num : Nat) (u : Value) (rec : List Int) (w : World) (hu : BytesIn w u rec) (hnil : NilOk u) (hok : okPack (gen : Int) (num : Int) rec.length) :
    Calls Tryd.prog 11 #[.int .i64 (gen : Int), .int .i64 (num : Int), u] w (RPackPost (packF gen num rec) (needN rec.length) w) := by
  obtain ⟨h1, h2, h3, -, h5⟩ := hok
  obtain ⟨ua, uc, rfl, -⟩ := id hu
  have HU := Lib.hid hu
  have HNI := Lib.hid hnil
  obtain ⟨n, hn⟩ : ∃ n, Hid (rec.length = n) := ⟨_, rfl⟩
  rw [hn.out] at HU HNI h1 h5 ⊢
  obtain ⟨k, hk⟩ : ∃ k, Hid (needN n = k) := ⟨_, rfl⟩
  rw [hk.out] at h5 ⊢
  have hz : needI (n : Int) = (k : Int) := (needI_nat n (by omega)).trans (by rw [hk.out])
  have HZ := Lib.hid hz
  have k1 : 1 ≤ k := by have := needN_pos n; rw [hk.out] at this; exact this
  have k45 : k ≤ 45 := by have := needN_le n (by omega); rw [hk.out] at this; exact this
  have q0 : ((k : Int) == 0) = false := by simpa using (show ¬ k = 0 by omega)
  have q1 : ¬ ((gen : Int) < 1) := by omega
  have q2 : ¬ (4294967295 < (gen : Int)) := by omega
  have q3 : ¬ ((num : Int) < 0) := by omega
  have q4 : ¬ (4294967295 - ((k : Int) - 1) < (num : Int)) := by omega
  have HKN : Hid (46 * k < n + 34 + 46 ∧ n + 34 ≤ 46 * k) := by unfold Hid; rw [← hk.out]; unfold needN; omega
  unfold packF
  rw [hn.out, hk.out]
  obtain ⟨all, hall⟩ : ∃ all, Hid (recB rec = all) := ⟨_, rfl⟩
  have HAL : Hid (all.length = n + 34) := by unfold Hid; rw [← hall.out, recB_length, hn.out]
  rw [hall.out]
  obtain ⟨B, hB⟩ : ∃ B, Hid (w.heap.size = B) := ⟨_, rfl⟩
  unfold RPackPost
  rw [hB.out]
  clear hu hnil hz
  go_enter Tryd.func11, Tryd.ntmps11
  go_wp2_with fail
  refine (rlneed_walk _ _).mono ?_
  rintro e w' ⟨rfl, rfl⟩
  rw [HZ.out]
  go_upto_region 4 with (fail)
  refine lin_begin (opsOf Tryd.f11 4) (by kernel_rfl) ?_
  refine lin_now 0 (.slice ua n uc) (some 37) (by kernel_rfl) (by kernel_rfl) (by kernel_rfl) ?_
  refine lin_now 1 (.int .i64 (n : Int)) (some 38) (by kernel_rfl) (by kernel_rfl) (by kernel_rfl) ?_
  refine lin_now 2 (.int .i64 (IntKind.i64.wrap ((n : Int).tdiv 256))) (some 39) (by kernel_rfl) (by kernel_rfl) (exec_quo 3 3 (.tmp 38) (.const (.int .i64 256)) (by kernel_rfl) (n : Int) 256 (by kernel_rfl) (by kernel_rfl) (by decide)) ?_
  rw [show IntKind.i64.wrap ((n : Int).tdiv 256) = ((n / 256 : Nat) : Int) by rw [Int.tdiv_eq_ediv_of_nonneg (by omega)]; exact (IntWalk.i64_in _ (by omega)).trans (by omega)]
  refine lin_now 3 (.int .u8 (((n / 256 : Nat) : Int) % 256)) (some 40) (by kernel_rfl) (by kernel_rfl) (by kernel_rfl) ?_
  refine lin_now 4 (.slice ua n uc) (some 41) (by kernel_rfl) (by kernel_rfl) (by kernel_rfl) ?_
  refine lin_now 5 (.int .i64 (n : Int)) (some 42) (by kernel_rfl) (by kernel_rfl) (by kernel_rfl) ?_
  refine lin_now 6 (.int .u8 ((n : Int) % 256)) (some 43) (by kernel_rfl) (by kernel_rfl) (by kernel_rfl) ?_
  refine lin_newrow 7 5 (ints .u8 [((n / 256 : Nat) : Int) % 256, (n : Int) % 256]) B 2 (some 44) (by kernel_rfl) (by kernel_rfl) hB (by kernel_rfl) ?_
  intro w1 b1 be1 hs1
  rw [← beB_two' n] at b1
  have U1 : BytesIn w1 (.slice ua n uc) rec := HU.out.below be1 (Nat.le_of_eq hB.out)
  have o1 : w1.ownsRow B 5 1 (.slice (some ⟨B, 0, none⟩) (beB 2 n).length 2) (beB 2 n).length (ints .u8 (beB 2 n)) := owns_blk (rs := []) (by rw [List.append_nil]; exact b1) (by rw [List.append_nil, beB_length]) (Nat.le_refl _) (by omega)
  refine lin_now 8 (.slice ua n uc) (some 45) (by kernel_rfl) (by kernel_rfl) (by kernel_rfl) ?_
  refine lin_appendb 9 (some 46) (by kernel_rfl) (by kernel_rfl) (by kernel_rfl) (.tmp 44) (.tmp 45) (by kernel_rfl) B _ (beB 2 n) (by kernel_rfl) o1 _ rec (by kernel_rfl) U1 HNI.out (by rw [beB_length, hn.out]; omega) (by rw [hs1.out]; omega) ?_
  intro v2 w2 h2' g2
  refine lin_now 10 (v2) (some 9) (by kernel_rfl) (by kernel_rfl) (by kernel_rfl) ?_
  refine lin_done 11 (by kernel_rfl) ?_
  obtain ⟨hd2, hhd⟩ : ∃ l, Hid (beB 2 n ++ rec = l) := ⟨_, rfl⟩
  rw [hhd.out] at h2'
  have O2 := Lib.hid h2'
  have BE2 : Hid (Below B w w2) := be1.grown g2 (by rw [hs1.out]; omega) (fun k hk => by have := owns_row o1 k hk; omega)
  have S2 : Hid (B ≤ w2.heap.size) := by unfold Hid; have := BE2.out.size; have := hB.out; omega
  clear b1 be1 hs1 U1 o1 h2' g2
  generalize hact : Act.put _ (some 9) _ = act
  simp only [Act.put, List.setIfInBounds_toArray, List.set_cons_succ, List.set_cons_zero] at hact
  subst hact
  have HL2 : Hid (hd2.length = n + 2) := by unfold Hid; rw [← hhd.out, List.length_append, beB_length, hn.out]; omega
  obtain ⟨sm, hsm⟩ : ∃ s, Hid (Sha.sum hd2 = s) := ⟨_, rfl⟩
  have HSM : Hid (sm.length = 32) := by unfold Hid; rw [← hsm.out]; exact Sha.sum_length _
  have ID : Hid ((Tryd.prog.info? 53).map (·.size) = some (ints .u8 sm).length) := by unfold Hid; rw [ints_length, HSM.out]; exact sizeDig
  have HC := Lib.hid (rsum_walk v2 hd2 w2 (owns_bytes O2.out) (owns_nilok O2.out) (by rw [HL2.out]; omega))
  rw [hsm.out] at HC
  go_upto_region 5 with (fail)
  refine lin_begin (opsOf Tryd.f11 5) (by kernel_rfl) ?_
  refine lin_now 0 (v2) (some 47) (by kernel_rfl) (by kernel_rfl) (by kernel_rfl) ?_
  refine lin_call 1 29 #[v2] (some 48) _ (by kernel_rfl) (by kernel_rfl) (by kernel_rfl) (HC.out) ?_
  rintro e w4 ⟨rfl, hb4⟩
  refine ⟨_, rfl, ?_⟩
  obtain ⟨q, hq⟩ : ∃ q, Hid (w4.heap.size = q) := ⟨_, rfl⟩
  refine lin_alloc 2 53 (ints .u8 z32) (q) (some 10) (by kernel_rfl) (by kernel_rfl) (by kernel_rfl) zeroDig hq ?_
  intro w5 b5 be5 hs5
  refine lin_put 3 53 (.tmp 10) (.tmp 48) (q) _ (ints .u8 z32) (ints .u8 sm) (by kernel_rfl) (by kernel_rfl) (by kernel_rfl) (by kernel_rfl) (by kernel_rfl) b5 (by rw [ints_length, ints_length, HSM.out, z32_length]) ID.out (ints_oneCell _ _) ?_
  intro w6 b6 u6
  refine lin_done 4 (by kernel_rfl) ?_
  have q3' : Hid (w2.heap.size ≤ q) := by unfold Hid; have := hb4.size; have := hq.out; omega
  have O6 : Hid (w6.ownsRow B 5 1 v2 hd2.length (ints .u8 hd2)) := by
    have h5 := own_step (F := []) (F' := []) O2.out (Step.of_below (hb4.trans (be5.mono q3'.out)) (Nat.le_refl _)) (fun g _ => by simp)
    exact own_upd h5 u6 (fun g hg => by have := owns_lt O2.out g hg; have := q3'.out; omega)
  have D6 : Hid (BytesIn w6 (.slice (some ⟨q, 0, none⟩) 32 32) sm) := ⟨_, 32, by rw [HSM.out], by rw [HSM.out]; omega, fun _ => ⟨q, 0, rfl, b6.lt, b6.whole⟩⟩
  have BE6 : Hid (Below B w w6) := u6.below ((BE2.out.trans (hb4.mono S2.out)).trans (be5.mono (Nat.le_trans S2.out q3'.out))) (Nat.le_trans S2.out q3'.out) (by have := hs5.out; have := q3'.out; have := S2.out; omega)
  have S6 : Hid (B ≤ w6.heap.size) := by unfold Hid; have := BE6.out.size; have := hB.out; omega
  clear O2 BE2 S2 HC hb4 hq b5 be5 hs5 b6 u6 q3'
  generalize hact : Act.put _ none _ = act
  simp only [Act.put, List.setIfInBounds_toArray, List.set_cons_succ, List.set_cons_zero] at hact
  subst hact
  go_upto_region 6 with (fail)
  refine lin_begin (opsOf Tryd.f11 6) (by kernel_rfl) ?_
  refine lin_now 0 (v2) (some 49) (by kernel_rfl) (by kernel_rfl) (by kernel_rfl) ?_
  refine lin_now 1 (.slice (some ⟨q, 0, none⟩) 32 32) (some 50) (by kernel_rfl) (by kernel_rfl) (by kernel_rfl) ?_
  refine lin_appendb 2 (some 51) (by kernel_rfl) (by kernel_rfl) (by kernel_rfl) (.tmp 49) (.tmp 50) (by kernel_rfl) B v2 hd2 (by kernel_rfl) O6.out _ sm (by kernel_rfl) D6.out trivial (by rw [HL2.out, HSM.out]; omega) S6.out ?_
  intro v7 w7 h7 g7
  refine lin_now 3 (v7) (some 9) (by kernel_rfl) (by kernel_rfl) (by kernel_rfl) ?_
  refine lin_done 4 (by kernel_rfl) ?_
  have e7 : hd2 ++ sm = all := by rw [← hall.out]; unfold recB; rw [hn.out, hhd.out, hsm.out]
  rw [e7] at h7
  have BE7 : Hid (Below B w w7) := BE6.out.grown g7 S6.out (fun k hk => by have := owns_row O6.out k hk; omega)
  have S7 : Hid (B ≤ w7.heap.size) := by unfold Hid; have := BE7.out.size; have := hB.out; omega
  obtain ⟨g, c2, rfl, hg2, hr2, hlt2, hc2⟩ : ∃ g c, v7 = .slice (some ⟨g, 0, none⟩) (n + 34) c ∧ B ≤ g ∧ w7.rangeAt g 0 (ints .u8 all) ∧ g < w7.heap.size ∧ n + 34 ≤ c := by
    obtain ⟨va, vc, e, hc, hp⟩ := owns_bytes h7
    obtain ⟨pb, po, e2, h6, h7'⟩ := hp (by rw [HAL.out]; omega)
    subst e2
    have h8 := owns_row h7 pb (by rw [e]; rfl)
    obtain ⟨_, h9⟩ := h7
    rcases h9 with ⟨e3, _⟩ | ⟨g3, cap3, cur3, e3, _⟩
    · rw [e] at e3; cases e3
    · rw [e] at e3
      obtain ⟨e4, -, -⟩ := Value.slice.inj e3
      obtain ⟨rfl, rfl⟩ : pb = g3 ∧ po = 0 := by simpa using e4
      exact ⟨pb, vc, by rw [e, HAL.out], h8, h7', h6, by rw [HAL.out] at hc; exact hc⟩
  have RA := Lib.hid hr2
  have LA := Lib.hid hlt2
  have HC2 := Lib.hid hc2
  obtain ⟨p, hp⟩ : ∃ p, Hid (w7.heap.size = p) := ⟨_, rfl⟩
  clear e7 h7 g7 O6 D6 BE6 S6 hg2 hr2 hlt2 hc2
  generalize hact : Act.put _ (some 9) _ = act
  simp only [Act.put, List.setIfInBounds_toArray, List.set_cons_succ, List.set_cons_zero] at hact
  subst hact
  go_upto_region 7 with (fail)
  refine lin_begin (opsOf Tryd.f11 7) (by kernel_rfl) ?_
  refine lin_newrow 0 37 [] p 0 (some 52) (by kernel_rfl) (by kernel_rfl) hp (by kernel_rfl) ?_
  intro w8 b8 be8 hs8
  refine lin_now 1 (.slice (some ⟨p, 0, none⟩) 0 0) (some 11) (by kernel_rfl) (by kernel_rfl) (by kernel_rfl) ?_
  refine lin_done 2 (by kernel_rfl) ?_
  have O8 : Hid (OwnB w8 p (.slice (some ⟨p, 0, none⟩) 0 0) 0 (packK gen num all 0)) := blk_own (n := 0) (l := []) b8 rfl (Nat.le_refl _) (by omega)
  have B8 := Lib.hid be8
  have pl : Hid (g < p ∧ B ≤ p) := by unfold Hid; have := LA.out; have := hp.out; have := S7.out; omega
  clear b8 be8 hs8 LA
  generalize hact : Act.put _ (some 11) _ = act
  simp only [Act.put, List.setIfInBounds_toArray, List.set_cons_succ, List.set_cons_zero] at hact
  subst hact
  go_wp2
  go_loopw [12, 11] (fun iv ov wr => ∃ (i : Nat) (v9 : Value), i ≤ k ∧ iv = .int .i64 (i : Int) ∧ v9 = ov ∧ OwnB wr p v9 i (packK gen num all i) ∧ Below p w7 wr) (fun iv _ _ => k - (intOf iv).toNat)
  case atStart => exact ⟨0, _, Nat.zero_le _, rfl, rfl, O8.out, B8.out⟩
  case round =>
    obtain ⟨i, v9, hi, rfl, rfl, ho, hbe⟩ := hrel
    have OW := Lib.hid ho
    have BE := Lib.hid hbe
    have SP : Hid (p ≤ wr.heap.size) := by unfold Hid; have := hbe.size; have := hp.out; omega
    obtain ⟨va, vc, e9, -⟩ := id ho.in
    clear ho hbe O8 B8
    subst e9
    by_cases hlt : i < k
    · have r1 : (i : Int) < (k : Int) := by omega
      obtain ⟨sz, hsz⟩ : ∃ sz, Hid ((cutP all i).length = sz) := ⟨_, rfl⟩
      have SZ : Hid (sz = min 46 (n + 34 - 46 * i)) := by unfold Hid; rw [← hsz.out, cutP_length, HAL.out]
      have hin : 46 * i < n + 34 := by have := HKN.out; omega
      have sz46 : sz ≤ 46 := by have := SZ.out; omega
      have sz1 : 1 ≤ sz := by have := SZ.out; omega
      have HMN : Hid ((if ((n + 34 : Nat) : Int) < ((46 * i + 46 : Nat) : Int) then ((n + 34 : Nat) : Int) else ((46 * i + 46 : Nat) : Int)) = ((46 * i + sz : Nat) : Int)) := by unfold Hid; have := SZ.out; split <;> omega
      have hfit : 46 * i + sz ≤ n + 34 := by have := SZ.out; omega
      have HRS : Hid ((Instr.sliceAt 22 (.slice (some ⟨g, 0, none⟩) (n + 34) c2) (some (.int .i64 ((46 * i : Nat) : Int))) (some (.int .i64 ((46 * i + sz : Nat) : Int))) none).run Tryd.prog wr = .ok (.slice (some ⟨g, 0 + 46 * i, none⟩) (46 * i + sz - 46 * i) (c2 - 46 * i)) wr) := run_bs_mid g 0 (n + 34) c2 (46 * i) (46 * i + sz) (by omega) (by have := HC2.out; omega) (by have := HC2.out; omega) wr
      have DR : Hid (BytesIn wr (.slice (some ⟨g, 46 * i, none⟩) sz (c2 - 46 * i)) (cutP all i)) := by
        refine ⟨_, c2 - 46 * i, by rw [hsz.out], by rw [hsz.out]; have := HC2.out; omega, fun _ => ⟨g, 46 * i, rfl, by have := pl.out; have := SP.out; omega, ?_⟩⟩
        refine cut_range (fun j v hv => ?_) i
        rw [BE.out.cell (p := ⟨g, 0 + j, none⟩) (by have := pl.out; simp only; omega)]
        exact RA.out j v hv
      obtain ⟨sc, hsc⟩ : ∃ s, Hid (sectorP (markP gen (num + i)) (cutP all i) = s) := ⟨_, rfl⟩
      have SL : Hid (sc.length = 64) := by unfold Hid; rw [← hsc.out]; exact sectorP_length (markP_length _ _) (cutP_le _ _)
      have HCS := Lib.hid (rlsector_walk gen (num + i) _ (cutP all i) (by omega) (by omega) wr DR.out trivial (by rw [hsz.out]; exact sz46))
      rw [hsc.out] at HCS
      go_upto_region 11 with (fail)
      refine lin_begin (opsOf Tryd.f11 11) (by kernel_rfl) ?_
      refine lin_now 0 (.slice va i vc) (some 58) (by kernel_rfl) (by kernel_rfl) (by kernel_rfl) ?_
      refine lin_now 1 (.int .i64 (gen : Int)) (some 59) (by kernel_rfl) (by kernel_rfl) (by kernel_rfl) ?_
      refine lin_now 2 (.int .i64 (num : Int)) (some 60) (by kernel_rfl) (by kernel_rfl) (by kernel_rfl) ?_
      refine lin_now 3 (.int .i64 (i : Int)) (some 61) (by kernel_rfl) (by kernel_rfl) (by kernel_rfl) ?_
      refine lin_now 4 (.int .i64 (IntKind.i64.wrap ((num : Int) + (i : Int)))) (some 62) (by kernel_rfl) (by kernel_rfl) (by kernel_rfl) ?_
      rw [show IntKind.i64.wrap ((num : Int) + (i : Int)) = ((num + i : Nat) : Int) from (IntWalk.i64_in _ (by omega)).trans (by omega)]
      refine lin_now 5 (.slice (some ⟨g, 0, none⟩) (n + 34) c2) (some 63) (by kernel_rfl) (by kernel_rfl) (by kernel_rfl) ?_
      refine lin_now 6 (.int .i64 (i : Int)) (some 64) (by kernel_rfl) (by kernel_rfl) (by kernel_rfl) ?_
      refine lin_now 7 (.int .i64 (IntKind.i64.wrap (46 * (i : Int)))) (some 65) (by kernel_rfl) (by kernel_rfl) (by kernel_rfl) ?_
      refine lin_now 8 (.int .i64 (i : Int)) (some 66) (by kernel_rfl) (by kernel_rfl) (by kernel_rfl) ?_
      refine lin_now 9 (.int .i64 (IntKind.i64.wrap (46 * (i : Int)))) (some 67) (by kernel_rfl) (by kernel_rfl) (by kernel_rfl) ?_
      rw [show IntKind.i64.wrap (46 * (i : Int)) = ((46 * i : Nat) : Int) from (IntWalk.i64_in _ (by omega)).trans (by omega)]
      refine lin_now 10 (.int .i64 (IntKind.i64.wrap (((46 * i : Nat) : Int) + 46))) (some 68) (by kernel_rfl) (by kernel_rfl) (by kernel_rfl) ?_
      rw [show IntKind.i64.wrap (((46 * i : Nat) : Int) + 46) = ((46 * i + 46 : Nat) : Int) from (IntWalk.i64_in _ (by omega)).trans (by omega)]
      refine lin_now 11 (.slice (some ⟨g, 0, none⟩) (n + 34) c2) (some 69) (by kernel_rfl) (by kernel_rfl) (by kernel_rfl) ?_
      refine lin_now 12 (.int .i64 ((n + 34 : Nat) : Int)) (some 70) (by kernel_rfl) (by kernel_rfl) (by kernel_rfl) ?_
      refine lin_now 13 (.int .i64 (if ((n + 34 : Nat) : Int) < ((46 * i + 46 : Nat) : Int) then ((n + 34 : Nat) : Int) else ((46 * i + 46 : Nat) : Int))) (some 71) (by kernel_rfl) (by kernel_rfl) (by kernel_rfl) ?_
      rw [HMN.out]
      refine lin_now 14 (.slice (some ⟨g, 0 + 46 * i, none⟩) (46 * i + sz - 46 * i) (c2 - 46 * i)) (some 72) (by kernel_rfl) (by kernel_rfl) (exec_of (Instr.sliceAt 22 (.slice (some ⟨g, 0, none⟩) (n + 34) c2) (some (.int .i64 ((46 * i : Nat) : Int))) (some (.int .i64 ((46 * i + sz : Nat) : Int))) none) _ (by kernel_rfl) HRS.out) ?_
      rw [show 46 * i + sz - 46 * i = sz by omega, Nat.zero_add]
      refine lin_call 15 30 #[.int .i64 (gen : Int), .int .i64 ((num + i : Nat) : Int), .slice (some ⟨g, 46 * i, none⟩) sz (c2 - 46 * i)] (some 73) _ (by kernel_rfl) (by kernel_rfl) (by kernel_rfl) (HCS.out) ?_
      rintro e w10 ⟨rfl, hb10⟩
      refine ⟨_, rfl, ?_⟩
      obtain ⟨q9, hq9⟩ : ∃ q, Hid (w10.heap.size = q) := ⟨_, rfl⟩
      refine lin_newrow 16 37 (ints .u8 sc) q9 1 (some 74) (by kernel_rfl) (by kernel_rfl) hq9 (exec_of (Instr.buildSlice 23 1 #[(0, .agg (ints .u8 sc).toArray)]) _ (by kernel_rfl) (run_build_blk sc SL.out _)) ?_
      intro w11 b11 be11 hs11
      have bb : Below wr.heap.size wr w11 := hb10.trans (be11.mono (by have := hb10.size; have := hq9.out; omega))
      refine lin_appendblk 17 (some 75) (by kernel_rfl) (by kernel_rfl) (by kernel_rfl) (.tmp 58) (.tmp 74) (by kernel_rfl) p _ i _ (by kernel_rfl) (OW.out.below bb) _ 1 sc (by kernel_rfl) (blks_blk b11 (by rw [SL.out])) trivial (by omega) (by have := SP.out; have := bb.size; omega) ?_
      intro v12 w12 ho12 hg12
      refine lin_now 18 (v12) (some 11) (by kernel_rfl) (by kernel_rfl) (by kernel_rfl) ?_
      refine lin_done 19 (by kernel_rfl) ?_
      have BE12 : Hid (Below p w7 w12) := (BE.out.trans (bb.mono SP.out)).grown hg12 (by have := SP.out; have := bb.size; omega) (fun k hk => (OW.out.row k hk).1)
      have O12 : Hid (OwnB w12 p v12 (i + 1) (packK gen num all (i + 1))) := by unfold Hid; rw [packK, hsc.out]; exact ho12
      clear BE OW SP b11 be11 hs11 bb hb10 hq9 ho12 hg12 HRS DR HCS
      generalize hact : Act.put _ (some 11) _ = act
      simp only [Act.put, List.setIfInBounds_toArray, List.set_cons_succ, List.set_cons_zero] at hact
      subst hact
      go_wp2
      exact ⟨⟨i + 1, v12, by omega, by go_num, rfl, O12.out, BE12.out⟩, by simp [intOf]; omega⟩
    · have r1 : ¬ (i : Int) < (k : Int) := by omega
      obtain rfl : i = k := by omega
      go_wp2
      go_ret2
      exact ⟨_, rfl, OW.out.base pl.out.2, BE7.out.trans (BE.out.mono pl.out.2)⟩
end Go.Proofs.YtaeghgnhpgkcdaaDoor
