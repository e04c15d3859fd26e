/- Package vault: Put, with foreign blocks E that the vault's values lie off too. -/
import Derived.Test.YtngpmilojfbpmaaDoorVltU
namespace Go.Proofs.YtngpmilojfbpmaaDoor
open Go Go.RowKit
set_option maxRecDepth 100000

def VpOkE (E A F : List Nat) (vb d sz ab first gen next : Nat) (kv : Value) (mb : Nat) (es : List Ent) (k zs : List Int) (seen dur : List Int) (pend : List Wr) (left : Int) (w : World) (e : Ending) (w' : World) : Prop :=
  e = .returned (.int .i64 0) ∧ ∃ A' F' kv', Vm w' (E ++ (A' ++ F')) vb d (some ⟨ab, 0, none⟩) kv' mb (es ++ [(k, zs)]) ∧ Ar w' A' ((E ++ vfoot vb mb kv') ++ F') ab d first (sz / 2) gen (next + needN (32 + zs.length)) false (es.map packE ++ [k ++ zs]) ∧
    Dk w' F' d sz (putsK seen (first + next) (packF gen next (k ++ zs)) (needN (32 + zs.length))) dur (pend ++ wrsAt (first + next) (packF gen next (k ++ zs)) (needN (32 + zs.length))) (leftK left (needN (32 + zs.length))) ∧ Step (vfoot vb mb kv ++ (A ++ F)) w (vfoot vb mb kv' ++ (A' ++ F')) w'
set_option maxHeartbeats 4000000 in
theorem vput_okE {w : World} (E : List Nat) {A F : List Nat} {vb d sz ab first gen next : Nat} {kv : Value} {mb : Nat} {es : List Ent} {k zs : List Int} {seen dur : List Int} {pend : List Wr} {left : Int} (u : Value) (hE : ∀ x ∈ E, x < w.heap.size) (h : Vm w (E ++ (A ++ F)) vb d (some ⟨ab, 0, none⟩) kv mb es) (ha : Ar w A ((E ++ vfoot vb mb kv) ++ F) ab d first (sz / 2) gen next false (es.map packE)) (hk : goodK k) (hu : BytesOff (vfoot vb mb kv ++ (A ++ F)) w u zs) (hnl : NilOk u) (hz : zs.length ≤ 1000) (hval : valOf es k = none) (hK : KW w) (hg1 : 1 ≤ gen) (hg2 : gen ≤ 4294967295) (hnh : next ≤ sz / 2) (hsz : sz ≤ 4096) (hd : Dk w F d sz seen dur pend left) (hfh : first + sz / 2 ≤ sz) (hlm : left ≤ 9223372036854775807) (hpm : pend.length ≤ 900000) (hfit : needN (32 + zs.length) ≤ sz / 2 - next) (hdone : doneN left (needN (32 + zs.length)) = needN (32 + zs.length)) (hzb : isBytes zs) (hes : es.length ≤ 100000) :
    Calls Tryd.prog 11 #[.pointer (some ⟨vb, 0, none⟩), kval k, u] w (VpOkE E A F vb d sz ab first gen next kv mb es k zs seen dur pend left w) := by
  show Calls Tryd.prog 11 #[.pointer (some ⟨vb, 0, none⟩), .agg (ints .u8 k).toArray, u] w (VpOkE E A F vb d sz ab first gen next kv mb es k zs seen dur pend left w)
  have AFL0 : Hid (∀ x ∈ A ++ F, x < w.heap.size) := fun x hx => by
    rcases List.mem_append.1 hx with h1 | h1
    · exact ha.lt x h1
    · exact hd.lt x h1
  have HEL := Lib.hid hE
  clear hE
  have HD := Lib.hid hd
  have VLT := Lib.hid h.lt
  have HZB := Lib.hid hzb
  have HES := Lib.hid hes
  unfold VpOkE
  rw [show needN (32 + zs.length) = needN (k ++ zs).length by rw [List.length_append, hk.1]] at hfit hdone ⊢
  obtain ⟨nn, hnn⟩ : ∃ dn, Hid (needN (k ++ zs).length = dn) := ⟨_, rfl⟩
  have HFIT := Lib.hid hfit
  have HDONE := Lib.hid hdone
  rw [hnn.out]
  clear hd hfit hdone hzb hes
  obtain ⟨half, hhf⟩ : ∃ half, Hid (sz / 2 = half) := ⟨_, rfl⟩
  rw [hhf.out] at ha hnh
  have hhm : half ≤ 4096 := by have := hhf.out; omega
  obtain ⟨ua, uc, rfl, -⟩ := id hu
  obtain ⟨m, hm⟩ : ∃ m, Hid (zs.length = m) := ⟨_, rfl⟩
  rw [hm.out] at hu hz hnl ⊢
  have HU := Lib.hid hu
  have HNL := Lib.hid hnl
  have HA := Lib.hid ha
  have HK := Lib.hid hK
  have HVAL := Lib.hid hval
  have q1 : ¬ (1000 : Int) < (m : Int) := by omega
  clear hu hval hnl ha hK
  obtain ⟨B, hB⟩ : ∃ B, Hid (w.heap.size = B) := ⟨_, rfl⟩
  have VW := Lib.hid h
  have GK := Lib.hid hk
  clear h hk
  have KS : Hid ((Tryd.prog.info? 35).map (·.size) = some (ints .u8 k).length) := blk_goodK GK.out.1
  go_enter Tryd.func11, Tryd.ntmps11
  go_upto_region 0 with (fail)
  refine lin_begin (opsOf Tryd.f11 0) (by kernel_rfl) ?_
  refine lin_box 0 35 (.tmp 1) (ints .u8 k) (B) (some 4) (by kernel_rfl) (by kernel_rfl) (by kernel_rfl) (by kernel_rfl) hB ?_
  intro w1 b1 be1 hs1
  refine lin_now 1 (.int .i64 0) (some 6) (by kernel_rfl) (by kernel_rfl) (by kernel_rfl) ?_
  refine lin_done 2 (by kernel_rfl) ?_
  have BL1 : Hid (Below w.heap.size w w1) := by rw [Hid, hB.out]; exact be1
  have B3 := Lib.hid b1
  clear b1 be1 hs1
  generalize hact : Act.put _ (some 6) _ = act
  simp only [Act.put, List.setIfInBounds_toArray, List.set_cons_succ, List.set_cons_zero] at hact
  subst hact
  obtain ⟨vs, v, m0, hlk, hbo, hnl, hvl, hvb⟩ := VW.out.asked GK.out
  have M0 := Lib.hid m0
  obtain ⟨bo, hbo2⟩ : ∃ b, Hid ((valOf es k).isSome = b) := ⟨_, rfl⟩
  rw [hbo2.out] at hlk
  have HLK := Lib.hid hlk
  have HBO := Lib.hid hbo.in
  have HVL := Lib.hid hvl
  have HVB := Lib.hid hvb
  rw [HVAL.out] at hbo2 HBO HVL HVB
  clear m0 hlk hbo hvl hvb hnl
  go_upto_region 3 with (fail)
  refine region_begin (opsOf Tryd.f11 3) (fun w => Blk w B 35 (ints .u8 (k)) ∧ w.cell? ⟨vb, 3, none⟩ = some (.map (some mb)) ∧ Mp w mb (es.map (·.1)) vs) (by kernel_rfl) (by kernel_rfl) 11 (by kernel_rfl) ?_
  intro Q' hQN hN
  have X : Blk w1.drew B 35 (ints .u8 (k)) ∧ w1.drew.cell? ⟨vb, 3, none⟩ = some (.map (some mb)) ∧ Mp w1.drew mb (es.map (·.1)) vs := ⟨B3.out.drew, (VW.out.below BL1.out.drew).c3, M0.out.same (BL1.out.drew.block mb M0.out.lt)⟩
  refine reg_now 0 (.pointer (some ⟨vb, 0, none⟩)) (some 14) hQN X (by kernel_rfl) (by kernel_rfl) (fun w => by kernel_rfl) ?_
  refine reg_now 1 (.pointer (some ⟨vb, 0, none⟩)) (some 15) hQN X (by kernel_rfl) (by kernel_rfl) (fun w => by kernel_rfl) ?_
  refine reg_now 2 (.pointer (some ⟨vb, 3, none⟩)) (some 16) hQN X (by kernel_rfl) (by kernel_rfl) (fun w => by kernel_rfl) ?_
  refine reg_nowIf 3 (.map (some mb)) (some 17) hQN X (by kernel_rfl) (by kernel_rfl) (fun w hw => exec_load_cell 71 (.tmp 16) (by kernel_rfl) vb 3 (by kernel_rfl) _ hw.2.1 _ Tryd.underlying71 rfl) ?_
  refine reg_nowIf 4 (.agg (ints .u8 (k)).toArray) (some 18) hQN X (by kernel_rfl) (by kernel_rfl) (fun w hw => exec_load_mid 35 (.tmp 4) (by kernel_rfl) B 0 (by kernel_rfl) (ints .u8 (k)) _ hw.1.whole digUnder rfl KS.out) ?_
  refine reg_nowIf 5 (.tuple #[v, .bool bo]) (some 19) hQN X (by kernel_rfl) (by kernel_rfl) (fun w hw => exec_of (Instr.lookup 71 (.map (some mb)) (kval (k)) true) _ (by kernel_rfl) (HLK.out w hw.2.2)) ?_
  refine reg_now 6 (.tuple #[v, .bool bo]) (some 13) hQN X (by kernel_rfl) (by kernel_rfl) (fun w => by kernel_rfl) ?_
  refine reg_now 7 (v) (some 20) hQN X (by kernel_rfl) (by kernel_rfl) (fun w => by kernel_rfl) ?_
  refine reg_now 8 (.bool bo) (some 21) hQN X (by kernel_rfl) (by kernel_rfl) (fun w => by kernel_rfl) ?_
  refine reg_now 9 (v) (some 7) hQN X (by kernel_rfl) (by kernel_rfl) (fun w => by kernel_rfl) ?_
  refine reg_now 10 (.bool bo) (some 8) hQN X (by kernel_rfl) (by kernel_rfl) (fun w => by kernel_rfl) ?_
  refine reg_done (by kernel_rfl) (hN _ _ ?_)
  have BW2 : Hid (Below w.heap.size w w1.drew) := BL1.out.drew
  have B4 : Hid (Blk w1.drew B 35 (ints .u8 k)) := B3.out.drew
  generalize w1.drew = w2 at BW2 B4 ⊢
  clear X hQN hN BL1 B3
  generalize hact : Act.put _ (some 8) _ = act
  simp only [Act.put, List.setIfInBounds_toArray, List.set_cons_succ, List.set_cons_zero] at hact
  subst hact
  obtain rfl : bo = false := hbo2.out.symm
  have V2 := Lib.hid (VW.out.below BW2.out)
  have A2 := Lib.hid (HA.out.below BW2.out)
  clear HBO HLK M0 HVB HVL
  go_wp2_with fail
  refine (vsound_walk V2.out).mono ?_
  rintro e w3 ⟨rfl, rfl⟩
  go_upto_region 10 with (fail)
  refine region_begin (opsOf Tryd.f11 10) (fun w => Blk w B 35 (ints .u8 k) ∧ w.cell? ⟨vb, 1, none⟩ = some (.pointer (some ⟨ab, 0, none⟩))) (by kernel_rfl) (by kernel_rfl) 9 (by kernel_rfl) ?_
  intro Q' hQN hN
  have X : Blk w2.drew B 35 (ints .u8 k) ∧ w2.drew.cell? ⟨vb, 1, none⟩ = some (.pointer (some ⟨ab, 0, none⟩)) := ⟨B4.out.drew, (VW.out.below BW2.out.drew).c1⟩
  have BW3 : Hid (Below w.heap.size w w2.drew) := BW2.out.drew
  generalize w2.drew = w3 at X BW3 ⊢
  refine reg_now 0 (.pointer (some ⟨vb, 0, none⟩)) (some 30) hQN X (by kernel_rfl) (by kernel_rfl) (fun w => by kernel_rfl) ?_
  refine reg_now 1 (.pointer (some ⟨vb, 0, none⟩)) (some 31) hQN X (by kernel_rfl) (by kernel_rfl) (fun w => by kernel_rfl) ?_
  refine reg_now 2 (.pointer (some ⟨vb, 1, none⟩)) (some 32) hQN X (by kernel_rfl) (by kernel_rfl) (fun w => by kernel_rfl) ?_
  refine reg_nowIf 3 (.pointer (some ⟨ab, 0, none⟩)) (some 33) hQN X (by kernel_rfl) (by kernel_rfl) (fun w hw => exec_load_cell 68 (.tmp 32) (by kernel_rfl) vb 1 (by kernel_rfl) _ hw.2 _ Tryd.underlying68 rfl) ?_
  refine reg_nowIf 4 (.agg (ints .u8 k).toArray) (some 34) hQN X (by kernel_rfl) (by kernel_rfl) (fun w hw => exec_load_mid 35 (.tmp 4) (by kernel_rfl) B 0 (by kernel_rfl) (ints .u8 k) _ hw.1.whole digUnder rfl KS.out) ?_
  refine reg_now 5 (.slice ua m uc) (some 35) hQN X (by kernel_rfl) (by kernel_rfl) (fun w => by kernel_rfl) ?_
  refine reg_call 6 39 #[.agg (ints .u8 k).toArray, .slice ua m uc] (some 36) _ (by kernel_rfl) (by kernel_rfl) (by kernel_rfl) (pack_walk k _ zs _ GK.out (HU.out.in.below BW3.out (Nat.le_refl _)) HNL.out (by rw [hm.out]; exact hz)) ?_
  rintro e w5 ⟨v5, rfl, ho5, hb5⟩
  have BW5 : Hid (Below w.heap.size w w5) := BW3.out.trans (hb5.mono BW3.out.size)
  have X5 : Blk w5 B 35 (ints .u8 k) ∧ w5.cell? ⟨vb, 1, none⟩ = some (.pointer (some ⟨ab, 0, none⟩)) := ⟨X.1.below hb5 X.1.lt, (VW.out.below BW5.out).c1⟩
  have AFL : Hid (∀ x ∈ A ++ F, x < w.heap.size) := AFL0.out
  have R5 : Hid (BytesOff (A ++ F) w5 v5 (k ++ zs)) := owns_off ho5 (fun x hx => by have := AFL.out x hx; have := BW3.out.size; omega)
  have N5 : Hid (NilOk v5) := owns_nilok ho5
  have A5 := Lib.hid (HA.out.below BW5.out)
  have RL : Hid ((k ++ zs).length = 32 + m) := by unfold Hid; rw [List.length_append, GK.out.1, hm.out]
  clear ho5 hb5
  refine ⟨_, rfl, X5, ?_⟩
  have D5 := Lib.hid (HD.out.below BW5.out)
  refine reg_call 7 38 #[.pointer (some ⟨ab, 0, none⟩), v5] (some 37) _ (by kernel_rfl) (by kernel_rfl) (by kernel_rfl) (add_ok (E ++ vfoot vb mb kv) A5.out (fun x hx => Nat.lt_of_lt_of_le (by rcases List.mem_append.1 hx with h1 | h1; exact HEL.out x h1; exact VLT.out x h1) BW5.out.size) v5 (k ++ zs) R5.out N5.out (HK.out.below BW5.out HK.out.lt) (by rw [RL.out]; omega) hg1 hg2 hnh hhm (by rw [← hhf.out]; exact HFIT.out) sz seen dur pend left D5.out (by rw [← hhf.out]; exact hfh) hlm hpm HDONE.out (by rw [List.length_map]; have := HES.out; omega)) ?_
  rintro e w6 ⟨rfl, A6, F6, ha6, hd6, hs6⟩
  rw [hnn.out] at ha6 hd6
  have V5 := VW.out.below BW5.out
  have V6 := Lib.hid (V5.step hs6.left)
  have HA6 := Lib.hid ha6
  have D6 := Lib.hid hd6
  have S6 : Hid (Step (A ++ F) w (A6 ++ F6) w6) := (Step.of_below BW5.out (Nat.le_refl _)).trans hs6
  have BN : B ∉ A ++ F := fun hc => by have := AFL.out B hc; have := hB.out; omega
  have X6 : Blk w6 B 35 (ints .u8 k) ∧ w6.cell? ⟨vb, 1, none⟩ = some (.pointer (some ⟨ab, 0, none⟩)) := ⟨hs6.blk X5.1 BN, V6.out.c1⟩
  have U6 : Hid (BytesOff (vfoot vb mb kv ++ (A6 ++ F6)) w6 (.slice ua m uc) zs) := HU.out.step S6.out.left
  have GL6 : Hid (∀ x ∈ E ++ (A6 ++ F6), x < w6.heap.size) := fun x hx => by
    rcases List.mem_append.1 hx with h0 | h0
    · exact Nat.lt_of_lt_of_le (HEL.out x h0) S6.out.size
    rcases List.mem_append.1 h0 with h1 | h1
    · exact HA6.out.lt x h1
    · exact D6.out.lt x h1
  clear ha6 hd6 hs6
  refine ⟨_, rfl, X6, ?_⟩
  refine reg_now 8 (.int .i64 0) (some 9) hQN X6 (by kernel_rfl) (by kernel_rfl) (fun w => by kernel_rfl) ?_
  refine reg_done (by kernel_rfl) (hN _ _ ?_)
  have X7 := Lib.hid X6.1
  have NK : Hid (k ∉ es.map (·.1)) := fun hc => by
    obtain ⟨e, he, ek⟩ := List.mem_map.1 hc
    obtain ⟨j, hj⟩ := List.mem_iff_getElem?.1 he
    have := valOf_some VW.out.nodup hj ek
    rw [HVAL.out] at this
    cases this
  clear X5 X6 X hQN hN A5 N5 R5 BW5 BW3 BW2 B4 V2 A2 V5 D5 BN
  generalize hact : Act.put _ (some 9) _ = act
  simp only [Act.put, List.setIfInBounds_toArray, List.set_cons_succ, List.set_cons_zero] at hact
  subst hact
  go_upto_region 15 with (fail)
  refine lin_begin (opsOf Tryd.f11 15) (by kernel_rfl) ?_
  refine lin_now 0 (.pointer (some ⟨vb, 0, none⟩)) (some 49) (by kernel_rfl) (by kernel_rfl) (by kernel_rfl) ?_
  refine lin_now 1 (.agg (ints .u8 k).toArray) (some 50) (by kernel_rfl) (by kernel_rfl) (exec_load_mid 35 (.tmp 4) (by kernel_rfl) B 0 (by kernel_rfl) (ints .u8 k) _ X7.out.whole digUnder rfl KS.out) ?_
  refine lin_now 2 (.slice ua m uc) (some 51) (by kernel_rfl) (by kernel_rfl) (by kernel_rfl) ?_
  refine lin_call 3 41 #[.pointer (some ⟨vb, 0, none⟩), .agg (ints .u8 k).toArray, .slice ua m uc] (some 52) _ (by kernel_rfl) (by kernel_rfl) (by kernel_rfl) (hold_walk (E ++ (A6 ++ F6)) vb d _ kv mb es k zs _ _ V6.out GL6.out HES.out GK.out NK.out (U6.out.sub (fun x hx => List.mem_append_left _ hx)) HNL.out ⟨by rw [hm.out]; exact hz, HZB.out⟩) ?_
  rintro e w8 ⟨kv8, rfl, hv8, hs8⟩
  have V8 := Lib.hid hv8
  have S8 := Lib.hid hs8
  clear hv8 hs8
  refine ⟨_, rfl, ?_⟩
  refine lin_done 4 (by kernel_rfl) ?_
  generalize hact : Act.put _ (some 52) _ = act
  simp only [Act.put, List.setIfInBounds_toArray, List.set_cons_succ, List.set_cons_zero] at hact
  subst hact
  go_wp2
  go_ret
  exact ⟨rfl, A6, F6, kv8, V8.out, by rw [hhf.out]; exact HA6.out.disk S8.out.left.right, D6.out.step S8.out (fun x hx hc => V6.out.n2 x hc (List.mem_append_right _ (List.mem_append_right _ hx))), S6.out.left.trans S8.out.right⟩
theorem Vm.less {w : World} {E G : List Nat} {vb d : Nat} {ap : Option Addr} {kv : Value} {mb : Nat} {es : List Ent} (h : Vm w (E ++ G) vb d ap kv mb es) : Vm w G vb d ap kv mb es := by
  obtain ⟨vs, h1, h2⟩ := h.hm
  refine ⟨h.hb, h.hk, ⟨vs, h1, fun i v e hv he => ⟨(h2 i v e hv he).1.sub (fun k hk => ?_), (h2 i v e hv he).2⟩⟩, h.n1, fun k hk hc => h.n2 k hk (List.mem_append_right _ hc), h.sh⟩
  rcases List.mem_append.1 hk with h3 | h3
  · exact List.mem_append_left _ h3
  · exact List.mem_append_right _ (List.mem_append_right _ h3)
theorem Vm.moreE {w : World} {E G : List Nat} {vb d : Nat} {ap : Option Addr} {kv : Value} {mb : Nat} {es : List Ent} (h : Vm w G vb d ap kv mb es) (hE : ∀ k ∈ E, w.heap.size ≤ k) : Vm w (E ++ G) vb d ap kv mb es := by
  have hlt := h.lt
  obtain ⟨vs, h1, h2⟩ := h.hm
  refine ⟨h.hb, h.hk, ⟨vs, h1, fun i v e hv he => ⟨(h2 i v e hv he).1.more (fun k hk => ?_), (h2 i v e hv he).2⟩⟩, h.n1, fun k hk hc => ?_, h.sh⟩
  · rcases List.mem_append.1 hk with h3 | h3
    · exact .inl (List.mem_append_left _ h3)
    · rcases List.mem_append.1 h3 with h4 | h4
      · exact .inr (hE k h4)
      · exact .inl (List.mem_append_right _ h4)
  · rcases List.mem_append.1 hc with h3 | h3
    · have := hlt k hk
      have := hE k h3
      omega
    · exact h.n2 k hk h3
theorem Ar.less {w : World} {A E V F : List Nat} {ab d first half gen next : Nat} {stuck : Bool} {recs : List (List Int)} (h : Ar w A ((E ++ V) ++ F) ab d first half gen next stuck recs) : Ar w A (V ++ F) ab d first half gen next stuck recs := by
  obtain ⟨rv, rfl, hx⟩ := h
  obtain ⟨vs, h1, h2⟩ := hx.hr
  have hs : ∀ k, k ∈ V ++ F → k ∈ (E ++ V) ++ F := fun k hk => by rw [List.append_assoc]; exact List.mem_append_right _ hk
  refine ⟨rv, rfl, ⟨hx.hb, ⟨vs, h1, fun i v zs hv hz => ⟨(h2 i v zs hv hz).1.sub (fun k hk => ?_), (h2 i v zs hv hz).2⟩⟩, hx.n1, fun k hk hc => hx.n2 k hk (hs k hc), hx.short⟩⟩
  rcases List.mem_append.1 hk with h3 | h3
  · exact List.mem_append_left _ h3
  · exact List.mem_append_right _ (hs k h3)
theorem Ar.moreE {w : World} {A E V F : List Nat} {ab d first half gen next : Nat} {stuck : Bool} {recs : List (List Int)} (h : Ar w A (V ++ F) ab d first half gen next stuck recs) (hE : ∀ k ∈ E, w.heap.size ≤ k) : Ar w A ((E ++ V) ++ F) ab d first half gen next stuck recs := by
  have hlt := h.lt
  obtain ⟨rv, rfl, hx⟩ := h
  obtain ⟨vs, h1, h2⟩ := hx.hr
  rw [List.append_assoc]
  refine ⟨rv, rfl, ⟨hx.hb, ⟨vs, h1, fun i v zs hv hz => ⟨(h2 i v zs hv hz).1.more (fun k hk => ?_), (h2 i v zs hv hz).2⟩⟩, hx.n1, fun k hk hc => ?_, hx.short⟩⟩
  · rcases List.mem_append.1 hk with h3 | h3
    · exact .inl (List.mem_append_left _ h3)
    · rcases List.mem_append.1 h3 with h4 | h4
      · exact .inr (hE k h4)
      · exact .inl (List.mem_append_right _ h4)
  · rcases List.mem_append.1 hc with h3 | h3
    · have := hlt k hk
      have := hE k h3
      omega
    · exact hx.n2 k hk h3
/-- A vault, its area, its disk, as VS says; all its values lie off the foreign blocks E too. -/
def VSE (E : List Nat) (B : Nat) (w0 : World) (d sz vb c P : Nat) (es : List Ent) (sure : Nat) (s : Bool) (left : Int) (T : List Nat) (w : World) : Prop :=
  ∃ A F ap kv mb first g seen dur pend all tp m0, T = vfoot vb mb kv ++ (A ++ F) ∧ ap.isSome = s ∧ Vx B w0 w d sz vb c P A F ap kv mb es first g seen dur pend left all tp m0 sure ∧ Vm w (E ++ (A ++ F)) vb d ap kv mb es ∧
    (∀ ab : Nat, ap = some ⟨ab, 0, none⟩ → Ar w A ((E ++ vfoot vb mb kv) ++ F) ab d first (sz / 2) g (1 + cntE es) false (es.map packE)) ∧ ∀ x ∈ E, x < w.heap.size ∧ B ≤ x ∧ x ∉ T
section
variable {E : List Nat} {B : Nat} {w0 w w' : World} {d sz vb c P : Nat} {es : List Ent} {sure : Nat} {s : Bool} {left : Int} {T : List Nat}
theorem VSE.vs (h : VSE E B w0 d sz vb c P es sure s left T w) : VS B w0 d sz vb c P es sure s left T w := by
  obtain ⟨A, F, ap, kv, mb, first, g, seen, dur, pend, all, tp, m0, hT, hs, hx, _⟩ := h
  exact ⟨A, F, ap, kv, mb, first, g, seen, dur, pend, all, tp, m0, hT, hs, hx⟩
theorem VSE.el (h : VSE E B w0 d sz vb c P es sure s left T w) : ∀ x ∈ E, x < w.heap.size ∧ B ≤ x ∧ x ∉ T := by
  obtain ⟨A, F, ap, kv, mb, first, g, seen, dur, pend, all, tp, m0, hT, hs, hx, _, _, h⟩ := h
  exact h
/-- Blocks that are made behind it. -/
theorem VSE.grow (h : VSE E B w0 d sz vb c P es sure s left T w) (hb : Below w.heap.size w w') {E2 : List Nat} (hE : ∀ x ∈ E2, w.heap.size ≤ x ∧ x < w'.heap.size) : VSE (E2 ++ E) B w0 d sz vb c P es sure s left T w' := by
  obtain ⟨A, F, ap, kv, mb, first, g, seen, dur, pend, all, tp, m0, hT, hs, hx, hv, ha, he⟩ := h
  have h2 : ∀ x ∈ E2, w.heap.size ≤ x := fun x hx => (hE x hx).1
  refine ⟨A, F, ap, kv, mb, first, g, seen, dur, pend, all, tp, m0, hT, hs, hx.below hb, ?_, fun ab e => ?_, fun x hx' => ?_⟩
  · rw [List.append_assoc]
    exact (hv.moreE h2).below hb
  · rw [List.append_assoc]
    refine Ar.below ?_ hb
    have h3 := ha ab e
    rw [List.append_assoc] at h3
    have h4 := Ar.moreE (V := E) (F := vfoot vb mb kv ++ F) h3 h2
    simpa only [List.append_assoc] using h4
  · rcases List.mem_append.1 hx' with h3 | h3
    · refine ⟨(hE x h3).2, ?_, fun hc => ?_⟩
      · have := hx.sb
        have := (hE x h3).1
        omega
      · rw [hT] at hc
        have := hx.lt x hc
        have := (hE x h3).1
        omega
    · exact ⟨Nat.lt_of_lt_of_le (he x h3).1 hb.size, (he x h3).2⟩
theorem VSE.below (h : VSE E B w0 d sz vb c P es sure s left T w) (hb : Below w.heap.size w w') : VSE E B w0 d sz vb c P es sure s left T w' := h.grow (E2 := []) hb (fun x hx => by simp at hx)
/-- The foreign blocks are changed, and new ones are made. -/
theorem VSE.move (h : VSE E B w0 d sz vb c P es sure s left T w) {E' : List Nat} (hs : Step E w E' w') (hl : ∀ x ∈ E', x < w'.heap.size) : VSE E' B w0 d sz vb c P es sure s left T w' := by
  obtain ⟨A, F, ap, kv, mb, first, g, seen, dur, pend, all, tp, m0, hT, hsm, hx, hv, ha, he⟩ := h
  have hv' : Vm w' (E' ++ (A ++ F)) vb d ap kv mb es := hv.step hs.right
  have ha' : ∀ ab : Nat, ap = some ⟨ab, 0, none⟩ → Ar w' A ((E' ++ vfoot vb mb kv) ++ F) ab d first (sz / 2) g (1 + cntE es) false (es.map packE) := fun ab e => (ha ab e).disk hs.right.right
  have hB : ∀ x ∈ E, B ≤ x := fun x hx' => (he x hx').2.1
  refine ⟨A, F, ap, kv, mb, first, g, seen, dur, pend, all, tp, m0, hT, hsm, ⟨hv'.less, fun ab e => (ha' ab e).less, hx.aw, fun k hk => Nat.lt_of_lt_of_le (hx.al k hk) hs.size, hx.st, hx.tk, hx.dk.step hs (fun k hk hc => (he k hc).2.2 (by rw [hT]; exact List.mem_append_right _ (List.mem_append_right _ hk))), hx.iv, hx.lf, hx.pl, hx.ge, hs.blow hB hx.sb hx.be, hx.s0⟩, hv', ha', fun x hx' => ⟨hl x hx', hs.ge hB hx.sb x hx', fun hc => ?_⟩⟩
  rcases hs.fresh x hx' with h1 | h1
  · exact (he x h1).2.2 hc
  · rw [hT] at hc
    have := hx.lt x hc
    omega
theorem VSE.other (h : VSE E B w0 d sz vb c P es sure s left T w) (hs : Step E w E w') : VSE E B w0 d sz vb c P es sure s left T w' := h.move hs (fun x hx => Nat.lt_of_lt_of_le (h.el x hx).1 hs.size)
theorem VSE.sub (h : VSE E B w0 d sz vb c P es sure s left T w) {E' : List Nat} (hs : ∀ x ∈ E', x ∈ E) : VSE E' B w0 d sz vb c P es sure s left T w := by
  obtain ⟨A, F, ap, kv, mb, first, g, seen, dur, pend, all, tp, m0, hT, hsm, hx, hv, ha, he⟩ := h
  refine ⟨A, F, ap, kv, mb, first, g, seen, dur, pend, all, tp, m0, hT, hsm, hx, ?_, fun ab e => ?_, fun x hx' => he x (hs x hx')⟩
  · obtain ⟨vs, h1, h2⟩ := hv.hm
    refine ⟨hv.hb, hv.hk, ⟨vs, h1, fun i v e hv' he' => ⟨(h2 i v e hv' he').1.sub (fun k hk => ?_), (h2 i v e hv' he').2⟩⟩, hv.n1, fun k hk hc => hv.n2 k hk ?_, hv.sh⟩
    · simp only [List.mem_append] at hk ⊢
      rcases hk with h3 | h3 | h3
      · exact .inl h3
      · exact .inr (.inl (hs k h3))
      · exact .inr (.inr h3)
    · simp only [List.mem_append] at hc ⊢
      rcases hc with h3 | h3
      · exact .inl (hs k h3)
      · exact .inr h3
  · obtain ⟨rv, hA, hy⟩ := ha ab e
    obtain ⟨vs, h1, h2⟩ := hy.hr
    have hm : ∀ k, k ∈ (E' ++ vfoot vb mb kv) ++ F → k ∈ (E ++ vfoot vb mb kv) ++ F := fun k hk => by
      simp only [List.mem_append] at hk ⊢
      rcases hk with (h3 | h3) | h3
      · exact .inl (.inl (hs k h3))
      · exact .inl (.inr h3)
      · exact .inr h3
    refine ⟨rv, hA, ⟨hy.hb, ⟨vs, h1, fun i v zs hv' hz => ⟨(h2 i v zs hv' hz).1.sub (fun k hk => ?_), (h2 i v zs hv' hz).2⟩⟩, hy.n1, fun k hk hc => hy.n2 k hk (hm k hc), hy.short⟩⟩
    rcases List.mem_append.1 hk with h3 | h3
    · exact List.mem_append_left _ h3
    · exact List.mem_append_right _ (hm k h3)
theorem VS.vse (h : VS B w0 d sz vb c P es sure s left T w) : VSE [] B w0 d sz vb c P es sure s left T w := by
  obtain ⟨A, F, ap, kv, mb, first, g, seen, dur, pend, all, tp, m0, hT, hs, hx⟩ := h
  exact ⟨A, F, ap, kv, mb, first, g, seen, dur, pend, all, tp, m0, hT, hs, hx, hx.vm, hx.ar, fun x hx' => by simp at hx'⟩
end
def PutOutE (E : List Nat) (B : Nat) (w0 : World) (d sz vb c P : Nat) (es : List Ent) (sure : Nat) (T : List Nat) (k zs : List Int) (w : World) (e : Ending) (w' : World) : Prop :=
  ∃ (n : Int) (T' : List Nat), e = .returned (.int .i64 n) ∧ Step T w T' w' ∧
    ((1000 < zs.length ∧ n = 10 ∧ VSE E B w0 d sz vb c (P + 4096) es sure true (-1) T' w') ∨
    (zs.length ≤ 1000 ∧ ((∃ old, valOf es k = some old ∧ n = (if decide (old = zs) then 0 else 13) ∧ VSE E B w0 d sz vb c (P + 4096) es sure true (-1) T' w') ∨
      (valOf es k = none ∧ ((sz / 2 - (1 + cntE es) < needN (32 + zs.length) ∧ n = 15 ∧ VSE E B w0 d sz vb c (P + 4096) es sure true (-1) T' w') ∨
        (needN (32 + zs.length) ≤ sz / 2 - (1 + cntE es) ∧ n = 0 ∧ VSE E B w0 d sz vb c (P + 4096) (es ++ [(k, zs)]) sure true (-1) T' w'))))))
theorem vse_put {E : List Nat} {B : Nat} {w0 w : World} {d sz vb c P : Nat} {es : List Ent} {sure : Nat} {T : List Nat} (h : VSE E B w0 d sz vb c P es sure true (-1) T w) (hK : KW w0) (hKB : 4 < B) (hP : P ≤ 300000) {k zs : List Int} (u : Value) (hk : goodK k) (hu : BytesOff T w u zs) (hnl : NilOk u) (hzb : isBytes zs) :
    Calls Tryd.prog 11 #[.pointer (some ⟨vb, 0, none⟩), kval k, u] w (PutOutE E B w0 d sz vb c P es sure T k zs w) := by
  obtain ⟨A, F, ap, kv, mb, first, g, seen, dur, pend, all, tp, m0, rfl, hsm, hx, hvE, haE, heE⟩ := h
  have hfr := hx.fits
  have hbig := hx.iv.big
  have hg2 := hx.iv.g2
  have hc255 := hx.iv.c255
  have same : ∀ {w' : World}, Below w.heap.size w w' → Step (vfoot vb mb kv ++ (A ++ F)) w (vfoot vb mb kv ++ (A ++ F)) w' := fun hb => Step.of_below hb (Nat.le_refl _)
  have sameE : ∀ {w' : World}, Below w.heap.size w w' → VSE E B w0 d sz vb c (P + 4096) es sure true (-1) (vfoot vb mb kv ++ (A ++ F)) w' := fun hb =>
    VSE.below (w := w) ⟨A, F, ap, kv, mb, first, g, seen, dur, pend, all, tp, m0, rfl, hsm, hx.more (Nat.le_refl _) hc255 (by omega), hvE, haE, heE⟩ hb
  obtain ⟨ua, uc, eu, -⟩ := id hu
  by_cases hz : 1000 < zs.length
  · rw [eu]
    refine (vput_long vb ua zs.length uc hk hz).mono ?_
    rintro e w' ⟨rfl, hb⟩
    exact ⟨10, _, rfl, same hb, .inl ⟨hz, rfl, sameE hb⟩⟩
  · have hz' : zs.length ≤ 1000 := by omega
    cases hval : valOf es k with
    | some old =>
      refine (vput_there u hx.vm hk hu.in hz' hzb hval).mono ?_
      rintro e w' ⟨rfl, hb⟩
      exact ⟨_, _, rfl, same hb, .inr ⟨hz', .inl ⟨old, hval, rfl, sameE hb⟩⟩⟩
    | none =>
      rcases hx.aw with rfl | ⟨ab, rfl⟩
      · cases hsm
      · have ha := hx.ar ab rfl
        have hkw := hx.kw hK hKB
        have hall := hx.st (by simp)
        have hh := hx.iv.half
        by_cases hfit : sz / 2 - (1 + cntE es) < needN (32 + zs.length)
        · refine (vput_full u hx.vm ha hk hu hnl hz' hval hkw.1 hx.iv.g1 (by omega) hfr.1 hbig (fun x hx' => hx.lt x (List.mem_append_right _ hx')) hfit).mono ?_
          rintro e w' ⟨rfl, hb⟩
          exact ⟨15, _, rfl, same hb, .inr ⟨hz', .inr ⟨hval, .inl ⟨hfit, rfl, sameE hb⟩⟩⟩⟩
        · have hfit' : needN (32 + zs.length) ≤ sz / 2 - (1 + cntE es) := by omega
          have hpl : pend.length ≤ 900000 := by have := hx.pl; omega
          have hrl : (k ++ zs).length = 32 + zs.length := by rw [List.length_append, hk.1]
          have hrb : isBytes (k ++ zs) := fun x hx' => by rcases List.mem_append.1 hx' with h | h; exact hk.2 x h; exact hzb x h
          have hlen : all.length = es.length := by rw [hall, List.length_map]
          have hcnt : cntK all all.length = cntE es := by rw [hlen]; exact hx.cnt
          have htp : tp = cntK all all.length := by
            have h1 := hx.iv.t1
            have h2 := hx.iv.tn
            rw [← hlen] at h1
            omega
          have hin := hx.iv
          rw [htp, ← hlen] at hin
          have hn40 : needN (32 + zs.length) ≤ 4096 := by omega
          have hdn : doneN (-1) (needN (32 + zs.length)) = needN (32 + zs.length) := rfl
          refine (vput_okE E u (fun x hx' => (heE x hx').1) hvE (haE ab rfl) hk hu hnl hz' hval hkw.1 hx.iv.g1 (by omega) hfr.1 hbig hx.dk hh hx.lf hpl hfit' hdn hzb (by omega)).mono ?_
          rintro e w' ⟨rfl, A', F', kv', hvm, har, hdk, hst⟩
          obtain ⟨f1, f2⟩ := hx.frame hst
          have hi2 := hin.add (rec := k ++ zs) (j := needN (k ++ zs).length) (nr' := all.length + 1) (by rw [hrl]; omega) hrb (Nat.le_refl _) (by rw [hrl, hcnt]; omega) (.inl ⟨rfl, rfl⟩)
          rw [hcnt, hrl, hlen] at hi2
          have har2 : Ar w' A' ((E ++ vfoot vb mb kv') ++ F') ab d first (sz / 2) g (1 + cntE (es ++ [(k, zs)])) false ((es ++ [(k, zs)]).map packE) := by
            rw [cntE_snoc es k zs hk.1, List.map_append, ← Nat.add_assoc]
            exact har
          refine ⟨0, _, rfl, hst, .inr ⟨hz', .inr ⟨hval, .inr ⟨hfit', rfl, ⟨A', F', some ⟨ab, 0, none⟩, kv', mb, first, g, _, dur, _, all ++ [k ++ zs], _, m0, rfl, rfl, ⟨hvm.less, fun ab' e => ?_, .inr ⟨ab, rfl⟩, fun x hx' => har.lt x hx', fun _ => by rw [hall, List.map_append]; rfl, ?_, hdk, by rw [List.length_append]; exact hi2, hx.lf, by rw [List.length_append, wrsAt_length]; have := hx.pl; omega, f1, f2, hx.s0⟩, hvm, fun ab' e => ?_, fun x hx' => ⟨Nat.lt_of_lt_of_le (heE x hx').1 hst.size, (heE x hx').2.1, fun hc => ?_⟩⟩⟩⟩⟩⟩
          · obtain rfl : ab = ab' := by simpa using e
            exact har2.less
          · rw [List.take_of_length_le (by rw [List.length_append, List.length_append, hlen]; simp), hall, List.map_append]
            rfl
          · obtain rfl : ab = ab' := by simpa using e
            exact har2
          · rcases hst.fresh x hc with h1 | h1
            · exact (heE x hx').2.2 h1
            · have := (heE x hx').1
              omega
end Go.Proofs.YtngpmilojfbpmaaDoor
