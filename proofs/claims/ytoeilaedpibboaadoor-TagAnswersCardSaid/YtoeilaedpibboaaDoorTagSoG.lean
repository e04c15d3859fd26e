/- package tag's Sort and Set over whatever digests. -/
import Derived.Test.YtoeilaedpibboaaDoorTagCpG
import Derived.Test.YtoeilaedpibboaaDoorTagSrG
import Derived.Test.YtoeilaedpibboaaDoorTagSet
import Derived.Test.YtoeilaedpibboaaDoorDskB
import Derived.Laws.AppendOwnNone
namespace Go.Proofs.YtoeilaedpibboaaDoor
open Go Go.RowKit
set_option maxRecDepth 100000

theorem insort_zero (a : Option Addr) (cap : Nat) (w : World) : Calls Tryd.prog 48 #[.slice a 0 cap, .int .i64 0, .int .i64 0, cmpV] w fun e w' => e = .returned (.tuple #[]) ∧ w = w' := by
  go_enter Tryd.func48, Tryd.ntmps48
  go_wp2
  go_loopw [8] (fun i wr => i = .int .i64 1 ∧ wr = w) (fun _ _ => 0)
  case atStart => exact ⟨rfl, rfl⟩
  case round =>
    obtain ⟨rfl, rfl⟩ := hrel
    have q1 : ¬ (1 : Int) < 0 := by omega
    go_wp2
    go_end0
    exact ⟨rfl, rfl⟩
theorem pdqsort_zero (a : Option Addr) (cap : Nat) (L : Int) (w : World) : Calls Tryd.prog 39 #[.slice a 0 cap, .int .i64 0, .int .i64 0, .int .i64 L, cmpV] w fun e w' => e = .returned (.tuple #[]) ∧ w = w' := by
  go_enter Tryd.func39, Tryd.ntmps39
  go_wp2
  go_loopw [1, 2, 3, 10, 11] (fun a b l p q wr => a = .int .i64 0 ∧ b = .int .i64 0 ∧ wr = w) (fun _ _ _ _ _ _ => 0)
  case atStart => exact ⟨rfl, rfl, rfl⟩
  case round =>
    obtain ⟨rfl, rfl, rfl⟩ := hrel
    have q1 : (0 : Int) ≤ 12 := by omega
    go_wp2_with fail
    refine (insort_zero a cap _).mono ?_
    rintro e w1 ⟨rfl, rfl⟩
    go_wp2
    refine bodyPost_ret (results_none rfl _ _ _) rfl ?_
    exact ⟨rfl, rfl⟩
theorem sortfunc_zero (a : Option Addr) (cap : Nat) (w : World) : Calls Tryd.prog 28 #[.slice a 0 cap, cmpV] w fun e w' => e = .returned (.tuple #[]) ∧ w = w' := by
  go_enter Tryd.func28, Tryd.ntmps28
  go_wp2_with fail
  refine (len_small 0 (by omega) _).mono ?_
  rintro e w1 ⟨L, rfl, rfl⟩
  go_wp2_with fail
  refine (pdqsort_zero a cap L _).mono ?_
  rintro e w1 ⟨rfl, rfl⟩
  go_wp2
  go_end0
  exact ⟨rfl, rfl⟩
theorem scompact_zero (a : Option Addr) (cap : Nat) (w : World) : Calls Tryd.prog 29 #[.slice a 0 cap] w fun e w' => e = .returned (.slice a 0 cap) ∧ w = w' := by
  have q1 : (0 : Int) < 2 := by omega
  go_enter Tryd.func29, Tryd.ntmps29
  go_wp2
  go_ret
  exact ⟨rfl, rfl⟩
/-- Digests of one's own, that grow. -/
def OwnD (w : World) (base : Nat) (v : Value) (ks : List (List Int)) : Prop := w.ownsRow base 24 32 v ks.length (ints .u8 ks.flatten)
theorem OwnD.in {w : World} {base : Nat} {v : Value} {ks : List (List Int)} (h : OwnD w base v ks) : DigsIn w v ks := by
  obtain ⟨h1, h2⟩ := h
  rcases h2 with ⟨rfl, hn0⟩ | ⟨g, cap, cur, rfl, _, hg, hc, _, hs, ht⟩
  · exact ⟨none, 0, by rw [hn0], fun h => by omega⟩
  · refine ⟨some ⟨g, 0, none⟩, cap, rfl, fun _ => ⟨g, 0, rfl, (Array.getElem?_eq_some_iff.1 hg).1, fun j v hv => ?_⟩⟩
    rw [cell_of_row w g (0 + j) cur 24 (0, 0) hg, Nat.zero_add]
    rw [← ht, List.getElem?_take] at hv
    split at hv
    · simpa using hv
    · cases hv
theorem OwnD.nilok {w : World} {base : Nat} {v : Value} {ks : List (List Int)} (h : OwnD w base v ks) : NilOk v := by
  rcases h.2 with ⟨rfl, _⟩ | ⟨g, cap, cur, rfl, _⟩
  · exact ⟨rfl, rfl⟩
  · trivial
theorem OwnD.slice {w : World} {base : Nat} {v : Value} {ks : List (List Int)} (h : OwnD w base v ks) : ∃ a c, v = .slice a ks.length c := by
  rcases h.2 with ⟨rfl, h0⟩ | ⟨g, cap, cur, rfl, _⟩
  · exact ⟨none, 0, by rw [h0]⟩
  · exact ⟨_, cap, rfl⟩
theorem OwnD.below {w w' : World} {base : Nat} {v : Value} {ks : List (List Int)} (h : OwnD w base v ks) (hb : Below w.heap.size w w') : OwnD w' base v ks :=
  own_step (F := []) (F' := []) h (Step.of_below hb (Nat.le_refl _)) (fun g _ => by simp)
theorem DigsIn.below {B : Nat} {w w' : World} {v : Value} {ks : List (List Int)} (h : DigsIn w v ks) (hb : Below B w w') (hB : w.heap.size ≤ B) : DigsIn w' v ks := by
  obtain ⟨a, cap, h1, h3⟩ := h
  refine ⟨a, cap, h1, fun hp => ?_⟩
  obtain ⟨pb, po, h4, h5, h6⟩ := h3 hp
  exact ⟨pb, po, h4, Nat.lt_of_lt_of_le h5 hb.size, fun j u hu => by rw [hb.cell (p := ⟨pb, po + j, none⟩) (by show pb < B; omega)]; exact h6 j u hu⟩
theorem flat_len32 {ks : List (List Int)} (h : ∀ k ∈ ks, k.length = 32) : ks.flatten.length = 32 * ks.length := by
  induction ks with
  | nil => rfl
  | cons k ks ih => rw [List.flatten_cons, List.length_append, h k (by simp), ih (fun x hx => h x (List.mem_cons_of_mem _ hx)), List.length_cons]; omega
theorem lin_appendd {ops : Array Oper} {Q : Exit → Act → World → Prop} {a : Act} {w : World} (i : Nat) (d : Option Tmp) (hi : (ops[i]?.isSome) = true) (hgd : (opAt ops i).guard = none) (hd : (opAt ops i).dst = d) (s x : Operand)
    (ho : (opAt ops i).op = .call { callee := .builtin .append, args := #[s, x], argTypes := #[22, 22] }) (base : Nat) (v : Value) (ks : List (List Int)) (hs : a.eval s = v) (hown : OwnD w base v ks)
    (u : Value) (ds : List (List Int)) (hx : a.eval x = u) (hu : DigsIn w u ds) (hd32 : ∀ k ∈ ds, k.length = 32) (hnil : NilOk u) (hb : ks.length + ds.length ≤ 1000000000) (hbase : base ≤ w.heap.size)
    (h : ∀ v' w', OwnD w' base v' (ks ++ ds) → w.grownBy w' v.ownBlock → wpFrom Tryd.prog ops Q (i + 1) (a.put d v') w') : wpFrom Tryd.prog ops Q i a w := by
  subst hd
  refine ⟨?_⟩
  rw [drop_opAt hi]
  obtain ⟨i0, hi0, hz0, hz1, hz2⟩ := info_parts infoDig3
  obtain ⟨sa, c, rfl, hp⟩ := hu
  cases sa with
  | none =>
    obtain ⟨h1, h2⟩ := hnil
    have hz : ds = [] := List.eq_nil_of_length_eq_zero h1
    subst hz
    subst h2
    refine wpList_append_own_none hgd s x 22 ho base 24 i0 32 Tryd.underlying22 hi0 v _ _ hs hown (by rw [hx]; rfl) ?_
    rw [List.append_nil] at h
    exact (h v w hown ⟨rfl, rfl, rfl, Nat.le_refl _, fun _ _ _ => rfl⟩).out
  | some ad =>
    refine wpList_append_own w hgd s x 22 ho base 24 i0 (.agg (ints .u8 (List.replicate 32 0)).toArray) 32 32 Tryd.underlying22 hi0 hz0 hz1 hz2 (by show (ints .u8 (List.replicate 32 0)).toArray.size = 32; rw [List.size_toArray, ints_length, List.length_replicate]) (by decide) v _ _ hs hown
      ad ds.length c (ints .u8 ds.flatten) hx (by rw [ints_length, flat_len32 hd32]; omega) ?_ (ints_one _ _) (by unfold maxLen; omega) (by omega) hbase ?_
    · intro j u hj
      have hj2 : j < ds.flatten.length := by have := (List.getElem?_eq_some_iff.1 hj).1; rwa [ints_length] at this
      rw [flat_len32 hd32] at hj2
      obtain ⟨pb, po, e, _, hr⟩ := hp (by omega)
      obtain rfl := Option.some.inj e
      rw [Addr.add_mid]
      exact hr j u hj
    · intro v' w' h1 h2 _
      refine (h v' w' ?_ h2).out
      unfold OwnD
      rw [List.length_append, List.flatten_append, ints_append]
      exact h1
theorem run_build_nodig (w : World) : (Instr.buildSlice 22 0 #[]).run Tryd.prog w = .ok (.slice (some ⟨w.heap.size, 0, none⟩) 0 0) (w.alloc (.cells #[] 24)) := by kernel_rfl
theorem OwnD.empty (w : World) : OwnD (w.alloc (.cells #[] 24)) w.heap.size (.slice (some ⟨w.heap.size, 0, none⟩) 0 0) [] := ⟨rfl, .inr ⟨w.heap.size, 0, #[], rfl, Nat.le_refl _, heap_alloc_last w _, Nat.le_refl _, by unfold maxLen; omega, rfl, rfl⟩⟩
/-- An empty slice is answered; memory below is as before. -/
def NoDig (w : World) (e : Ending) (w' : World) : Prop := ∃ a c, e = .returned (.slice a 0 c) ∧ NilOk (.slice a 0 c) ∧ Below w.heap.size w w'
theorem sclone_zero (a : Option Addr) (c : Nat) (hnil : NilOk (.slice a 0 c)) (w : World) : Calls Tryd.prog 27 #[.slice a 0 c] w (NoDig w) := by
  obtain ⟨B, hB⟩ : ∃ B, Hid (w.heap.size = B) := ⟨_, rfl⟩
  cases a with
  | none =>
    obtain ⟨-, h2⟩ := hnil
    subst h2
    have hq : ∀ w, (binOp BinOp.eql 22 (.slice none 0 0) (.slice none 0 0)).run Tryd.prog w = .ok (.bool true) w := fun w => by kernel_rfl
    go_enter Tryd.func27, Tryd.ntmps27
    go_wp2
    go_ret
    exact ⟨none, 0, rfl, ⟨rfl, rfl⟩, Below.refl _ _⟩
  | some ad =>
    have hq : ∀ w, (binOp BinOp.eql 22 (.slice (some ad) 0 c) (.slice none 0 0)).run Tryd.prog w = .ok (.bool false) w := fun w => by kernel_rfl
    clear hnil
    go_enter Tryd.func27, Tryd.ntmps27
    go_upto_region 3 with (fail)
    refine lin_begin (opsOf Tryd.f27 3) (by kernel_rfl) ?_
    have hmk := run_build_nodig w
    have B1 : Hid (Below w.heap.size w (w.alloc (.cells #[] 24))) := (Below.refl _ _).alloc (Nat.le_refl _) _
    have O1 := OwnD.empty w
    rw [hB.out] at hmk O1
    generalize w.alloc (.cells #[] 24) = w1 at hmk B1 O1
    refine lin_value 0 (.slice (some ⟨B, 0, none⟩) 0 0) (some 5) w1 (by kernel_rfl) (by kernel_rfl) (exec_of (Instr.buildSlice 22 0 #[]) _ (by kernel_rfl) hmk) ?_
    refine lin_now 1 (.slice (some ad) 0 c) (some 6) (by kernel_rfl) (by kernel_rfl) (by kernel_rfl) ?_
    refine lin_appendd 2 (some 7) (by kernel_rfl) (by kernel_rfl) (by kernel_rfl) (.tmp 5) (.tmp 6) (by kernel_rfl) B _ [] (by kernel_rfl) O1 _ [] (by kernel_rfl) ⟨some ad, c, rfl, fun h => absurd h (by simp)⟩ (fun k hk => by cases hk) trivial (by simp) (by rw [← hB.out]; exact B1.out.size) ?_
    intro v2 w2 h2 g2
    obtain ⟨a2, c2, ev⟩ := OwnD.slice h2
    have hn2 := h2.nilok
    subst ev
    refine lin_now 3 (.slice a2 0 c2) (some 2) (by kernel_rfl) (by kernel_rfl) (by kernel_rfl) ?_
    refine lin_done 4 (by kernel_rfl) ?_
    have B2 : Hid (Below w.heap.size w w2) := B1.out.grown g2 B1.out.size (fun k hk => by simp [Value.ownBlock] at hk; rw [← hk, hB.out]; exact Nat.le_refl _)
    have N2 : Hid (NilOk (.slice a2 0 c2)) := hn2
    clear h2 g2 hmk hn2
    generalize hact : Act.put _ (some 2) _ = act
    simp only [Act.put, List.setIfInBounds_toArray, List.set_cons_succ, List.set_cons_zero] at hact
    subst hact
    go_wp2
    go_ret
    exact ⟨a2, c2, rfl, N2.out, B2.out⟩
theorem tsort_zero (a : Option Addr) (c : Nat) (hnil : NilOk (.slice a 0 c)) (w : World) : Calls Tryd.prog 14 #[.slice a 0 c] w (NoDig w) := by
  go_enter Tryd.func14, Tryd.ntmps14
  go_wp2_with fail
  refine (sclone_zero a c hnil w).mono ?_
  rintro e w1 ⟨a1, c1, rfl, n1, b1⟩
  have N1 := Lib.hid n1
  have B1 := Lib.hid b1
  clear n1 b1
  go_wp2_with fail
  refine (sortfunc_zero a1 c1 _).mono ?_
  rintro e w2 ⟨rfl, rfl⟩
  go_wp2_with fail
  refine (scompact_zero a1 c1 _).mono ?_
  rintro e w3 ⟨rfl, rfl⟩
  go_wp2
  go_ret
  exact ⟨a1, c1, rfl, N1.out, B1.out⟩
theorem okD.perm {l ds : List (List Int)} (h : okD ds) (hp : l.Perm ds) : okD l := fun d hd => h d (hp.mem_iff.1 hd)
theorem tsort_pos (u : Value) (ds : List (List Int)) (n : Nat) (w : World) (hu : DigsIn w u ds) (hn : ds.length = n) (h0 : 1 ≤ n) (hl : n ≤ 1000) (hok : okD ds) : Calls Tryd.prog 14 #[u] w (DigNew (sortS ds) w) := by
  obtain ⟨a, c, rfl, -⟩ := id hu
  have HU := Lib.hid hu
  have HN := Lib.hid hn
  have HOK := Lib.hid hok
  clear hu hok
  rw [hn]
  clear hn
  go_enter Tryd.func14, Tryd.ntmps14
  go_wp2_with fail
  have hcl := sclone_walk _ ds w HU.out (by rw [HN.out]; omega) (by rw [HN.out]; omega) HOK.out
  rw [HN.out] at hcl
  refine hcl.mono ?_
  rintro e w1 ⟨D, cap, rest, rfl, hD, hcap, hdg, hb1⟩
  rw [HN.out]
  rw [HN.out] at hcap
  have HDG := Lib.hid hdg
  have HB1 := Lib.hid hb1
  clear hdg hb1 hcl
  go_wp2_with fail
  refine (sortfunc_walk D n cap ds rest HN.out HOK.out hl _ HDG.out).mono ?_
  rintro e w2 ⟨rfl, l, hnd, hpm, hs2⟩
  have HS2 := Lib.hid hs2
  have HB2 := Lib.hid (hs2.u.below HB1.out hD HB1.out.size)
  have HE : Hid (cpt l = sortS ds) := (cpt_sorted hnd).trans (sortS_set fun z => hpm.mem_iff)
  have HLL : Hid (l.length = n) := hpm.length_eq.trans HN.out
  have HLO := Lib.hid (HOK.out.perm hpm)
  clear hs2 hnd hpm
  go_wp2_with fail
  refine (scompact_all D n cap l rest HLL.out HLO.out h0 hl hcap _ HS2.out.d).mono ?_
  rintro e w3 ⟨cap', rest', rfl, hcap3, hdg3, hu3⟩
  rw [HE.out] at hcap3 hdg3 ⊢
  have HG3 := Lib.hid hdg3
  have HB3 := Lib.hid (hu3.below HB2.out hD HB2.out.size)
  clear hdg3 hu3
  generalize sortS ds = rl at *
  go_wp2
  go_ret
  exact ⟨D, cap', rest', rfl, hD, hcap3, HG3.out, HB3.out⟩
end Go.Proofs.YtoeilaedpibboaaDoor
/- package tag's Set over whatever digests; the statements' own sameAll. -/
namespace Go.Proofs.YtoeilaedpibboaaDoor
open Go Go.RowKit
set_option maxRecDepth 100000

set_option maxHeartbeats 1000000 in
theorem tset_pos (kind : Int) (u : Value) (ds : List (List Int)) (n : Nat) (w : World) (hu : DigsIn w u ds) (hn : ds.length = n) (h0 : 1 ≤ n) (hl : n ≤ 1000) (hok : okD ds) (hK : KW w) :
    Calls Tryd.prog 16 #[.int .u8 kind, u] w fun e w' => e = .returned (.agg (ints .u8 (nodeL kind (sortS ds))).toArray) ∧ Below w.heap.size w w' := by
  have hst := fun w1 (hb : Below w.heap.size w w1) => tsort_pos u ds n w1 (hu.below hb (Nat.le_refl _)) hn h0 hl hok
  have HST := Lib.hid hst
  have h32 : okD (sortS ds) := fun d hd => hok d ((sortS_mem d ds).1 hd)
  have hr0 := sortS_len ds
  have HK := Lib.hid hK
  obtain ⟨a, c, rfl, -⟩ := id hu
  clear hst hu hok hK
  obtain ⟨rl, hr⟩ : ∃ rl, Hid (sortS ds = rl) := ⟨_, rfl⟩
  rw [hr.out] at HST h32 hr0 ⊢
  have H32 := Lib.hid h32
  obtain ⟨j, hrl⟩ : ∃ j, rl.length = j := ⟨_, rfl⟩
  have HRL := Lib.hid hrl
  rw [hrl, hn] at hr0
  clear h32 hrl
  have HFL : Hid (rl.flatten.length ≤ 1000000) := by unfold Hid; rw [flat32_length H32.out.a, HRL.out]; omega
  rw [hn] at HST ⊢
  clear hn
  go_enter Tryd.func16, Tryd.ntmps16
  go_wp2_with fail
  refine (HST.out _ ((Below.refl _ _).alloc (Nat.le_refl _) _)).mono ?_
  rintro e w1 ⟨D, cap, rest, rfl, hD, -, hdg, hb1⟩
  rw [HRL.out]
  have R1 : Hid (Blk w1 w.heap.size 24 (ints .u8 (List.replicate 32 0))) := (Blk.new2 w _ _ _ _ rfl (by kernel_rfl)).below hb1 (by simp)
  have HB1 : Hid (Below w.heap.size w w1) := ((Below.refl _ _).alloc (Nat.le_refl _) _).trans (hb1.mono (by simp))
  have HDG := Lib.hid hdg
  have hDw : w.heap.size < D := by have : (w.alloc _).heap.size ≤ D := hD; simp at this; omega
  clear hD hdg hb1 HST
  go_wp2_with (refine wpList_make_blk _ rfl _ _ 38 rfl 36 (.slice none 0 0) 24 Tryd.underlying38 infoBytes3 rfl _ _ _ _ j rfl rfl rfl rfl (by omega) (by omega) ?_)
  intro w2 hb2 hbe2 hsz2
  obtain ⟨P, hP⟩ : ∃ P, P = w1.heap.size := ⟨_, rfl⟩
  rw [← hP] at hb2 ⊢
  have hDP : D < P := by have := Blk.lt HDG.out; omega
  have P2 : Hid (Blk w2 P 36 (digSlices D 0 ++ List.replicate (j - 0) (.slice none 0 0))) := hb2
  have R2 := Lib.hid (R1.out.below hbe2 R1.out.lt)
  have HB2 := Lib.hid (HB1.out.trans (hbe2.mono HB1.out.size))
  have DG2 := Lib.hid (HDG.out.below hbe2 (Blk.lt HDG.out))
  clear hb2 hbe2 hsz2 hP R1 HB1 HDG
  have hat := fun k (hk : k < j) w => run_at_digest D 0 j cap k hk w
  have HAT := Lib.hid hat
  clear hat
  go_wp2
  go_loopw [15, 7] (fun i _ wr => ∃ k : Nat, k ≤ j ∧ i = .int .i64 k ∧ Blk wr P 36 (digSlices D k ++ List.replicate (j - k) (.slice none 0 0)) ∧ Upd P w2 wr) (fun i _ _ => j - (intOf i).toNat)
  case atStart => exact ⟨0, by omega, rfl, P2.out, Upd.refl _ _⟩
  case round =>
    obtain ⟨k, hk, rfl, hPb, hU⟩ := hrel
    by_cases hlt : k < j
    · have q1 : (k : Int) < (j : Int) := by omega
      have ha := fun w => HAT.out k hlt w
      rw [Nat.zero_add] at ha
      have hlen : (digSlices D k ++ List.replicate (j - k) (Value.slice none 0 0)).length = j := by rw [List.length_append, digSlices_length, List.length_replicate]; omega
      have cP := hPb.cell (j := k) (v := .slice none 0 0) (by rw [List.getElem?_append_right (by rw [digSlices_length]; omega), digSlices_length, List.getElem?_replicate, if_pos (by omega)])
      have fP := hPb.free k
      have HP := Lib.hid hPb
      have HU := Lib.hid hU
      clear hPb hU hlen P2
      go_wp2
      go_roundw
      case rel =>
        refine ⟨k + 1, by omega, by go_num, ?_, HU.out.setCell k _⟩
        have h1 := HP.out.set k (.slice (some ⟨D, 32 * k, none⟩) 32 32)
        have h2 := set_fill (digSlices D k) (j - (k + 1)) (.slice none 0 0) (.slice (some ⟨D, 32 * k, none⟩) 32 32)
        rw [digSlices_length, show j - (k + 1) + 1 = j - k by omega] at h2
        rw [h2] at h1
        exact h1
      case measure => simp [intOf]; omega
    · have q1 : ¬ (k : Int) < (j : Int) := by omega
      have HP : Hid (Blk wr P 36 (digSlices D rl.length)) := by
        have e : k = j := by omega
        subst e
        unfold Hid
        rw [HRL.out]
        simpa using hPb
      have R3 := Lib.hid (hU.blk R2.out (by omega))
      have HB3 := Lib.hid (hU.below HB2.out (by omega) HB2.out.size)
      have DG3 := Lib.hid (DG2.out.upd hU (by omega))
      have HPI : Hid (PartsIn wr (.slice (some ⟨P, 0, none⟩) j j) rl) := by
        have := parts_digs HP.out DG3.out H32.out.a (by rw [HRL.out]; omega)
        rw [HRL.out] at this
        exact this
      have KW3 := Lib.hid (HK.out.below HB3.out HK.out.lt)
      clear hPb hU P2 R2 HB2 DG2
      go_wp2_with fail
      refine (node_walk kind _ rl _ HPI.out (by rw [HRL.out]; omega) HFL.out KW3.out).mono ?_
      rintro e w4 ⟨rfl, hb4⟩
      have R4 := Lib.hid (R3.out.below hb4 R3.out.lt)
      have HB4 := Lib.hid (HB3.out.trans (hb4.mono HB3.out.size))
      clear hb4 R3 HB3 KW3 HPI HP DG3
      obtain ⟨res, hres⟩ : ∃ r, Hid (nodeL kind rl = r) := ⟨_, rfl⟩
      have HRS : Hid (res.length = 32) := by unfold Hid; rw [← hres.out]; exact nodeL_length _ _
      rw [hres.out]
      have HI : Hid ((Tryd.prog.info? 24).map (·.size) = some (ints .u8 res).length) := by unfold Hid; rw [ints_length, HRS.out]; exact infoDigest
      have HI' : Hid ((Tryd.prog.info? 24).map (·.size) = some (ints .u8 res).toArray.size) := by unfold Hid; rw [List.size_toArray, ints_length, HRS.out]; exact infoDigest
      have HL : Hid ((ints .u8 res).length = (ints .u8 (List.replicate 32 0)).length) := by unfold Hid; rw [ints_length, HRS.out, ints_length, List.length_replicate]
      go_wp2_with (refine wpList_store_whole rfl 24 _ _ rfl w.heap.size (ints .u8 res) rfl rfl 24 (ints .u8 (List.replicate 32 0)) R4.out HL.out HI.out (ints_oneCell _ _) ?_)
      intro w5 hb5 hup5 _
      refine wpList_nil ?_
      go_wp2
      have hbl := hup5.below HB4.out (Nat.le_refl _) HB4.out.size
      refine bodyPost_ret (v := .agg (ints .u8 res).toArray) ?_ rfl ⟨by rw [hres.out], hbl⟩
      refine results_cell_row (g := w.heap.size) (t := 24) (cs := (ints .u8 res).toArray) (fr := (0, 0)) Tryd.results16 _ _ _ ?_ ?_ Tryd.underlying24 rfl HI'.out
      · rfl
      · exact hb5
theorem tset_zero (kind : Int) (a : Option Addr) (c : Nat) (hnil : NilOk (.slice a 0 c)) (w : World) (hK : KW w) :
    Calls Tryd.prog 16 #[.int .u8 kind, .slice a 0 c] w fun e w' => e = .returned (.agg (ints .u8 (nodeL kind [])).toArray) ∧ Below w.heap.size w w' := by
  have HST : Hid (∀ w1, Calls Tryd.prog 14 #[.slice a 0 c] w1 (NoDig w1)) := fun w1 => tsort_zero a c hnil w1
  have HK := Lib.hid hK
  clear hK hnil
  go_enter Tryd.func16, Tryd.ntmps16
  go_wp2_with fail
  refine (HST.out _).mono ?_
  rintro e w1 ⟨a1, c1, rfl, -, hb1⟩
  have R1 : Hid (Blk w1 w.heap.size 24 (ints .u8 (List.replicate 32 0))) := (Blk.new2 w _ _ _ _ rfl (by kernel_rfl)).below hb1 (by simp)
  have HB1 : Hid (Below w.heap.size w w1) := ((Below.refl _ _).alloc (Nat.le_refl _) _).trans (hb1.mono (by simp))
  clear hb1 HST
  go_wp2_with (refine wpList_make_blk _ rfl _ _ 38 rfl 36 (.slice none 0 0) 24 Tryd.underlying38 infoBytes3 rfl _ _ _ _ 0 rfl rfl rfl rfl (by omega) (by omega) ?_)
  intro w2 hb2 hbe2 hsz2
  obtain ⟨P, hP⟩ : ∃ P, P = w1.heap.size := ⟨_, rfl⟩
  rw [← hP] at hb2 ⊢
  have R3 := Lib.hid (R1.out.below hbe2 R1.out.lt)
  have HB3 := Lib.hid (HB1.out.trans (hbe2.mono HB1.out.size))
  clear hb2 hbe2 hsz2 hP R1 HB1
  go_wp2
  go_loopw [15, 7] (fun i _ wr => i = .int .i64 0 ∧ wr = w2) (fun _ _ _ => 0)
  case atStart => exact ⟨rfl, rfl⟩
  case round =>
    obtain ⟨rfl, rfl⟩ := hrel
    have q1 : ¬ (0 : Int) < 0 := by omega
    have KW3 := Lib.hid (HK.out.below HB3.out HK.out.lt)
    have HPI : Hid (PartsIn wr (.slice (some ⟨P, 0, none⟩) 0 0) []) := ⟨some ⟨P, 0, none⟩, 0, [], rfl, rfl, by simp, fun h => absurd h (by simp), fun k v zs hv => by simp at hv⟩
    go_wp2_with fail
    refine (node_walk kind _ [] _ HPI.out (by simp) (by simp) KW3.out).mono ?_
    rintro e w4 ⟨rfl, hb4⟩
    have R4 := Lib.hid (R3.out.below hb4 R3.out.lt)
    have HB4 := Lib.hid (HB3.out.trans (hb4.mono HB3.out.size))
    clear hb4 R3 HB3 KW3 HPI
    obtain ⟨res, hres⟩ : ∃ r, Hid (nodeL kind [] = r) := ⟨_, rfl⟩
    have HRS : Hid (res.length = 32) := by unfold Hid; rw [← hres.out]; exact nodeL_length _ _
    rw [hres.out]
    have HI : Hid ((Tryd.prog.info? 24).map (·.size) = some (ints .u8 res).length) := by unfold Hid; rw [ints_length, HRS.out]; exact infoDigest
    have HI' : Hid ((Tryd.prog.info? 24).map (·.size) = some (ints .u8 res).toArray.size) := by unfold Hid; rw [List.size_toArray, ints_length, HRS.out]; exact infoDigest
    have HL : Hid ((ints .u8 res).length = (ints .u8 (List.replicate 32 0)).length) := by unfold Hid; rw [ints_length, HRS.out, ints_length, List.length_replicate]
    go_wp2_with (refine wpList_store_whole rfl 24 _ _ rfl w.heap.size (ints .u8 res) rfl rfl 24 (ints .u8 (List.replicate 32 0)) R4.out HL.out HI.out (ints_oneCell _ _) ?_)
    intro w5 hb5 hup5 _
    refine wpList_nil ?_
    go_wp2
    have hbl := hup5.below HB4.out (Nat.le_refl _) HB4.out.size
    refine bodyPost_ret (v := .agg (ints .u8 res).toArray) ?_ rfl ⟨by rw [hres.out], hbl⟩
    refine results_cell_row (g := w.heap.size) (t := 24) (cs := (ints .u8 res).toArray) (fr := (0, 0)) Tryd.results16 _ _ _ ?_ ?_ Tryd.underlying24 rfl HI'.out
    · rfl
    · exact hb5
theorem tset_all (kind : Int) (u : Value) (ds : List (List Int)) (w : World) (hu : DigsIn w u ds) (hnil : NilOk u) (hl : ds.length ≤ 1000) (hok : okD ds) (hK : KW w) :
    Calls Tryd.prog 16 #[.int .u8 kind, u] w fun e w' => e = .returned (.agg (ints .u8 (nodeL kind (sortS ds))).toArray) ∧ Below w.heap.size w w' := by
  by_cases h0 : 1 ≤ ds.length
  · exact tset_pos kind u ds _ w hu rfl h0 hl hok hK
  · have e : ds = [] := List.eq_nil_of_length_eq_zero (by omega)
    subst e
    obtain ⟨a, c, rfl, -⟩ := hu
    exact tset_zero kind a c hnil w hK
theorem tsort_all (u : Value) (ds : List (List Int)) (w : World) (hu : DigsIn w u ds) (hnil : NilOk u) (hl : ds.length ≤ 1000) (hok : okD ds) :
    Calls Tryd.prog 14 #[u] w fun e w' => ∃ v, e = .returned v ∧ DigsIn w' v (sortS ds) ∧ NilOk v ∧ Below w.heap.size w w' := by
  by_cases h0 : 1 ≤ ds.length
  · refine (tsort_pos u ds _ w hu rfl h0 hl hok).mono ?_
    rintro e w' ⟨D, cap, rest, rfl, -, -, hd, hb⟩
    refine ⟨_, rfl, ⟨_, _, rfl, fun _ => ⟨D, 0, rfl, Blk.lt hd, ?_⟩⟩, trivial, hb⟩
    intro j v hv
    have h1 := Blk.cell hd (j := j) (v := v) (by rw [List.getElem?_append_left (List.getElem?_eq_some_iff.1 hv).1]; exact hv)
    rwa [Nat.zero_add]
  · have e : ds = [] := List.eq_nil_of_length_eq_zero (by omega)
    subst e
    obtain ⟨a, c, rfl, -⟩ := hu
    refine (tsort_zero a c hnil w).mono ?_
    rintro e w' ⟨a2, c2, rfl, hn2, hb⟩
    exact ⟨_, rfl, ⟨a2, c2, rfl, fun h => absurd h (by simp [sortS])⟩, hn2, hb⟩
theorem DigsIn.el {w : World} {a : Option Addr} {n c i : Nat} {ds : List (List Int)} {x : List Int} (h : DigsIn w (.slice a n c) ds) (h32 : all32 ds) (hx : ds[i]? = some x) : ∃ p o, a = some ⟨p, o, none⟩ ∧ p < w.heap.size ∧ w.rangeAt p (o + 32 * i) (ints .u8 x) := by
  obtain ⟨a2, c2, e, hp⟩ := h
  obtain ⟨rfl, -, -⟩ := Value.slice.inj e
  obtain ⟨p, o, h1, h2, h3⟩ := hp (by have := (List.getElem?_eq_some_iff.1 hx).1; omega)
  refine ⟨p, o, h1, h2, fun j v hv => ?_⟩
  have e1 : ((ints .u8 ds.flatten).drop (32 * i)).take 32 = ints .u8 x := by rw [ints_drop, ints_take, flat32_at h32 hx]
  rw [← e1, List.getElem?_take, List.getElem?_drop] at hv
  split at hv
  · have h4 := h3 (32 * i + j) v hv
    rw [show o + 32 * i + j = o + (32 * i + j) by omega]
    exact h4
  · cases hv
set_option maxHeartbeats 1000000 in
theorem sameall_walk (a1 a2 : Option Addr) (n c1 c2 : Nat) (ds : List (List Int)) (w : World) (hu : DigsIn w (.slice a1 n c1) ds) (hv : DigsIn w (.slice a2 n c2) ds) (hn : ds.length = n) (hm : n ≤ 1000) (hok : okD ds) :
    Calls Tryd.prog 13 #[.slice a1 n c1, .slice a2 n c2] w fun e w' => e = .returned (.bool true) ∧ Below w.heap.size w w' := by
  have HU : Hid (DigsIn w (.slice a1 n c1) ds ∧ DigsIn w (.slice a2 n c2) ds ∧ n ≤ 1000) := ⟨hu, hv, hm⟩
  have HN := Lib.hid hn
  have HOK := Lib.hid hok
  clear hu hv hn hok
  go_enter Tryd.func13, Tryd.ntmps13
  go_upto_region 0 with (fail)
  refine lin_begin (opsOf Tryd.f13 0) (by kernel_rfl) ?_
  refine lnow 0 (.bool false) (some 4) ?_
  refine lin_done 1 (by kernel_rfl) ?_
  generalize hact : Act.put _ (some 4) _ = act
  simp only [Act.put, List.setIfInBounds_toArray, List.set_cons_succ, List.set_cons_zero] at hact
  subst hact
  go_upto_region 1 with (fail)
  refine lin_begin (opsOf Tryd.f13 1) (by kernel_rfl) ?_
  refine lnow 0 (.slice a1 n c1) (some 6) ?_
  refine lnow 1 (.int .i64 (n : Int)) (some 7) ?_
  refine lnow 2 (.slice a2 n c2) (some 8) ?_
  refine lnow 3 (.int .i64 (n : Int)) (some 9) ?_
  refine lnow 4 (.bool (!decide ((n : Int) = (n : Int)))) (some 10) ?_
  rw [decide_eq_true (rfl)]
  rw [show (!true) = false from rfl]
  refine lin_done 5 (by kernel_rfl) ?_
  generalize hact : Act.put _ (some 10) _ = act
  simp only [Act.put, List.setIfInBounds_toArray, List.set_cons_succ, List.set_cons_zero] at hact
  subst hact
  go_upto_region 3 with (fail)
  refine lin_begin (opsOf Tryd.f13 3) (by kernel_rfl) ?_
  refine lnow 0 (.int .i64 0) (some 5) ?_
  refine lin_done 1 (by kernel_rfl) ?_
  generalize hact : Act.put _ (some 5) _ = act
  simp only [Act.put, List.setIfInBounds_toArray, List.set_cons_succ, List.set_cons_zero] at hact
  subst hact
  go_wp2
  go_loopw [5] (fun kv wr => ∃ k : Nat, k ≤ n ∧ kv = .int .i64 (k : Int) ∧ Hid (Below w.heap.size w wr)) (fun kv _ => n - (intOf kv).toNat)
  case atStart => exact ⟨0, Nat.zero_le _, rfl, Below.refl _ _⟩
  case round =>
    obtain ⟨k, hk, rfl, BR⟩ := hrel
    by_cases hlt : (k : Int) < (n : Int)
    rotate_left
    · skip
      go_upto_region 4 with (fail)
      refine lin_begin (opsOf Tryd.f13 4) (by kernel_rfl) ?_
      refine lnow 0 (.int .i64 (k : Int)) (some 11) ?_
      refine lnow 1 (.slice a1 n c1) (some 12) ?_
      refine lnow 2 (.int .i64 (n : Int)) (some 13) ?_
      refine lnow 3 (.bool (decide ((k : Int) < (n : Int)))) (some 14) ?_
      rw [decide_eq_false (hlt)]
      refine lin_done 4 (by kernel_rfl) ?_
      generalize hact : Act.put _ (some 14) _ = act
      simp only [Act.put, List.setIfInBounds_toArray, List.set_cons_succ, List.set_cons_zero] at hact
      subst hact
      go_upto_region 8 with (fail)
      refine lin_begin (opsOf Tryd.f13 8) (by kernel_rfl) ?_
      refine lnow 0 (.bool true) (some 4) ?_
      refine lin_done 1 (by kernel_rfl) ?_
      generalize hact : Act.put _ (some 4) _ = act
      simp only [Act.put, List.setIfInBounds_toArray, List.set_cons_succ, List.set_cons_zero] at hact
      subst hact
      go_wp2
      go_ret
      exact ⟨rfl, BR.out⟩
    go_upto_region 4 with (fail)
    refine lin_begin (opsOf Tryd.f13 4) (by kernel_rfl) ?_
    refine lnow 0 (.int .i64 (k : Int)) (some 11) ?_
    refine lnow 1 (.slice a1 n c1) (some 12) ?_
    refine lnow 2 (.int .i64 (n : Int)) (some 13) ?_
    refine lnow 3 (.bool (decide ((k : Int) < (n : Int)))) (some 14) ?_
    rw [decide_eq_true (hlt)]
    refine lin_done 4 (by kernel_rfl) ?_
    generalize hact : Act.put _ (some 14) _ = act
    simp only [Act.put, List.setIfInBounds_toArray, List.set_cons_succ, List.set_cons_zero] at hact
    subst hact
    obtain ⟨x, hx⟩ : ∃ x, Hid (ds[k]? = some x) := ⟨_, List.getElem?_eq_getElem (by rw [HN.out]; omega)⟩
    have OX : Hid (x.length = 32) := (HOK.out x (List.mem_of_getElem? hx.out)).1
    obtain ⟨p1, o1, rfl, -, hr1⟩ := (HU.out.1.below BR.out (Nat.le_refl _)).el HOK.out.a hx.out
    obtain ⟨p2, o2, rfl, -, hr2⟩ := (HU.out.2.1.below BR.out (Nat.le_refl _)).el HOK.out.a hx.out
    have R1 := Lib.hid hr1
    have R2 := Lib.hid hr2
    clear hr1 hr2
    go_upto_region 6 with (fail)
    refine region_begin (opsOf Tryd.f13 6) (fun w' => ∀ p, w'.cell? p = World.cell? wr p) (by kernel_rfl) (by kernel_rfl) 9 (by kernel_rfl) ?_
    intro Q' hQN hN
    have HS : ∀ p, World.cell? (World.drew wr) p = World.cell? wr p := fun _ => rfl
    refine reg_now 0 (.slice (some ⟨p1, o1, none⟩) n c1) (some 17) hQN HS (by kernel_rfl) (by kernel_rfl) (fun w => by kernel_rfl) ?_
    refine reg_now 1 (.int .i64 (k : Int)) (some 18) hQN HS (by kernel_rfl) (by kernel_rfl) (fun w => by kernel_rfl) ?_
    refine reg_now 2 (.pointer (some ⟨p1, o1 + 32 * k, none⟩)) (some 19) hQN HS (by kernel_rfl) (by kernel_rfl) (fun w' => exec_indexAt 22 (.tmp 17) (.tmp 18) (by kernel_rfl) _ _ _ (by kernel_rfl) (by kernel_rfl) (run_at_digest p1 o1 n c1 k (by omega) _)) ?_
    refine reg_nowIf 3 (.agg (ints .u8 x).toArray) (some 20) hQN HS (by kernel_rfl) (by kernel_rfl) (fun w' hw => exec_load_mid 24 (.tmp 19) (by kernel_rfl) (p1) (o1 + 32 * k) (by kernel_rfl) (ints .u8 x) _ (fun j y hy => (hw _).trans (R1.out j y hy)) Tryd.underlying24 rfl (sizeD OX.out)) ?_
    refine reg_now 4 (.slice (some ⟨p2, o2, none⟩) n c2) (some 21) hQN HS (by kernel_rfl) (by kernel_rfl) (fun w => by kernel_rfl) ?_
    refine reg_now 5 (.int .i64 (k : Int)) (some 22) hQN HS (by kernel_rfl) (by kernel_rfl) (fun w => by kernel_rfl) ?_
    refine reg_now 6 (.pointer (some ⟨p2, o2 + 32 * k, none⟩)) (some 23) hQN HS (by kernel_rfl) (by kernel_rfl) (fun w' => exec_indexAt 22 (.tmp 21) (.tmp 22) (by kernel_rfl) _ _ _ (by kernel_rfl) (by kernel_rfl) (run_at_digest p2 o2 n c2 k (by omega) _)) ?_
    refine reg_nowIf 7 (.agg (ints .u8 x).toArray) (some 24) hQN HS (by kernel_rfl) (by kernel_rfl) (fun w' hw => exec_load_mid 24 (.tmp 23) (by kernel_rfl) (p2) (o2 + 32 * k) (by kernel_rfl) (ints .u8 x) _ (fun j y hy => (hw _).trans (R2.out j y hy)) Tryd.underlying24 rfl (sizeD OX.out)) ?_
    refine reg_now 8 (.bool (!decide (x = x))) (some 25) hQN HS (by kernel_rfl) (by kernel_rfl) (fun w' => exec_neq w' (.tmp 20) (.tmp 24) 24 (by kernel_rfl) Tryd.underlying24 Tryd.underlying5 sizeByte guardDigest x x OX.out OX.out (by kernel_rfl) (by kernel_rfl)) ?_
    rw [show (!decide (x = x)) = false by rw [decide_eq_true (rfl : x = x)]; rfl]
    refine reg_done (by kernel_rfl) (hN _ _ ?_)
    generalize hact : Act.put _ (some 25) _ = act
    simp only [Act.put, List.setIfInBounds_toArray, List.set_cons_succ, List.set_cons_zero] at hact
    subst hact
    have BR2 : Hid (Below w.heap.size w wr.drew) := BR.out.drew
    clear BR R1 R2 HS hQN hN OX
    generalize ints .u8 x = vx
    go_wp2
    go_roundw
    case rel => exact ⟨k + 1, by omega, by go_num, BR2⟩
    case measure => simp [intOf]; omega
end Go.Proofs.YtoeilaedpibboaaDoor
