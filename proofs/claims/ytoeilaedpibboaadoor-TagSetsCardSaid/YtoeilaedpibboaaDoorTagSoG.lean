/- package tag's Sort and Set over whatever digests. -/
import Derived.Test.YtoeilaedpibboaaDoorTagCpG
import Derived.Test.YtoeilaedpibboaaDoorTagSrG
import Derived.Test.YtoeilaedpibboaaDoorTagSet
import Derived.Test.YtoeilaedpibboaaDoorDskB
import Derived.Laws.AppendOwnNone
namespace Go.Proofs.YtoeilaedpibboaaDoor
open Go Go.RowKit
set_option maxRecDepth 100000

theorem insort_zero (a : Option Addr) (cap : Nat) (w : World) : Calls Tryd.prog 48 #[.slice a 0 cap, .int .i64 0, .int .i64 0, cmpV] w fun e w' => e = .returned (.tuple #[]) ∧ w = w' := by
  go_enter Tryd.func48, Tryd.ntmps48
  go_wp2
  go_loopw [8] (fun i wr => i = .int .i64 1 ∧ wr = w) (fun _ _ => 0)
  case atStart => exact ⟨rfl, rfl⟩
  case round =>
    obtain ⟨rfl, rfl⟩ := hrel
    have q1 : ¬ (1 : Int) < 0 := by omega
    go_wp2
    go_end0
    exact ⟨rfl, rfl⟩
theorem pdqsort_zero (a : Option Addr) (cap : Nat) (L : Int) (w : World) : Calls Tryd.prog 39 #[.slice a 0 cap, .int .i64 0, .int .i64 0, .int .i64 L, cmpV] w fun e w' => e = .returned (.tuple #[]) ∧ w = w' := by
  go_enter Tryd.func39, Tryd.ntmps39
  go_wp2
  go_loopw [1, 2, 3, 10, 11] (fun a b l p q wr => a = .int .i64 0 ∧ b = .int .i64 0 ∧ wr = w) (fun _ _ _ _ _ _ => 0)
  case atStart => exact ⟨rfl, rfl, rfl⟩
  case round =>
    obtain ⟨rfl, rfl, rfl⟩ := hrel
    have q1 : (0 : Int) ≤ 12 := by omega
    go_wp2_with fail
    refine (insort_zero a cap _).mono ?_
    rintro e w1 ⟨rfl, rfl⟩
    go_wp2
    refine bodyPost_ret (results_none rfl _ _ _) rfl ?_
    exact ⟨rfl, rfl⟩
theorem sortfunc_zero (a : Option Addr) (cap : Nat) (w : World) : Calls Tryd.prog 28 #[.slice a 0 cap, cmpV] w fun e w' => e = .returned (.tuple #[]) ∧ w = w' := by
  go_enter Tryd.func28, Tryd.ntmps28
  go_wp2_with fail
  refine (len_small 0 (by omega) _).mono ?_
  rintro e w1 ⟨L, rfl, rfl⟩
  go_wp2_with fail
  refine (pdqsort_zero a cap L _).mono ?_
  rintro e w1 ⟨rfl, rfl⟩
  go_wp2
  go_end0
  exact ⟨rfl, rfl⟩
theorem scompact_zero (a : Option Addr) (cap : Nat) (w : World) : Calls Tryd.prog 29 #[.slice a 0 cap] w fun e w' => e = .returned (.slice a 0 cap) ∧ w = w' := by
  have q1 : (0 : Int) < 2 := by omega
  go_enter Tryd.func29, Tryd.ntmps29
  go_wp2
  go_ret
  exact ⟨rfl, rfl⟩
/-- Digests of one's own, that grow. -/
def OwnD (w : World) (base : Nat) (v : Value) (ks : List (List Int)) : Prop := w.ownsRow base 24 32 v ks.length (ints .u8 ks.flatten)
theorem OwnD.in {w : World} {base : Nat} {v : Value} {ks : List (List Int)} (h : OwnD w base v ks) : DigsIn w v ks := by
  obtain ⟨h1, h2⟩ := h
  rcases h2 with ⟨rfl, hn0⟩ | ⟨g, cap, cur, rfl, _, hg, hc, _, hs, ht⟩
  · exact ⟨none, 0, by rw [hn0], fun h => by omega⟩
  · refine ⟨some ⟨g, 0, none⟩, cap, rfl, fun _ => ⟨g, 0, rfl, (Array.getElem?_eq_some_iff.1 hg).1, fun j v hv => ?_⟩⟩
    rw [cell_of_row w g (0 + j) cur 24 (0, 0) hg, Nat.zero_add]
    rw [← ht, List.getElem?_take] at hv
    split at hv
    · simpa using hv
    · cases hv
theorem OwnD.nilok {w : World} {base : Nat} {v : Value} {ks : List (List Int)} (h : OwnD w base v ks) : NilOk v := by
  rcases h.2 with ⟨rfl, _⟩ | ⟨g, cap, cur, rfl, _⟩
  · exact ⟨rfl, rfl⟩
  · trivial
theorem OwnD.slice {w : World} {base : Nat} {v : Value} {ks : List (List Int)} (h : OwnD w base v ks) : ∃ a c, v = .slice a ks.length c := by
  rcases h.2 with ⟨rfl, h0⟩ | ⟨g, cap, cur, rfl, _⟩
  · exact ⟨none, 0, by rw [h0]⟩
  · exact ⟨_, cap, rfl⟩
theorem OwnD.below {w w' : World} {base : Nat} {v : Value} {ks : List (List Int)} (h : OwnD w base v ks) (hb : Below w.heap.size w w') : OwnD w' base v ks :=
  own_step (F := []) (F' := []) h (Step.of_below hb (Nat.le_refl _)) (fun g _ => by simp)
theorem DigsIn.below {B : Nat} {w w' : World} {v : Value} {ks : List (List Int)} (h : DigsIn w v ks) (hb : Below B w w') (hB : w.heap.size ≤ B) : DigsIn w' v ks := by
  obtain ⟨a, cap, h1, h3⟩ := h
  refine ⟨a, cap, h1, fun hp => ?_⟩
  obtain ⟨pb, po, h4, h5, h6⟩ := h3 hp
  exact ⟨pb, po, h4, Nat.lt_of_lt_of_le h5 hb.size, fun j u hu => by rw [hb.cell (p := ⟨pb, po + j, none⟩) (by show pb < B; omega)]; exact h6 j u hu⟩
theorem flat_len32 {ks : List (List Int)} (h : ∀ k ∈ ks, k.length = 32) : ks.flatten.length = 32 * ks.length := by
  induction ks with
  | nil => rfl
  | cons k ks ih => rw [List.flatten_cons, List.length_append, h k (by simp), ih (fun x hx => h x (List.mem_cons_of_mem _ hx)), List.length_cons]; omega
theorem lin_appendd {ops : Array Oper} {Q : Exit → Act → World → Prop} {a : Act} {w : World} (i : Nat) (d : Option Tmp) (hi : (ops[i]?.isSome) = true) (hgd : (opAt ops i).guard = none) (hd : (opAt ops i).dst = d) (s x : Operand)
    (ho : (opAt ops i).op = .call { callee := .builtin .append, args := #[s, x], argTypes := #[22, 22] }) (base : Nat) (v : Value) (ks : List (List Int)) (hs : a.eval s = v) (hown : OwnD w base v ks)
    (u : Value) (ds : List (List Int)) (hx : a.eval x = u) (hu : DigsIn w u ds) (hd32 : ∀ k ∈ ds, k.length = 32) (hnil : NilOk u) (hb : ks.length + ds.length ≤ 1000000000) (hbase : base ≤ w.heap.size)
    (h : ∀ v' w', OwnD w' base v' (ks ++ ds) → w.grownBy w' v.ownBlock → wpFrom Tryd.prog ops Q (i + 1) (a.put d v') w') : wpFrom Tryd.prog ops Q i a w := by
  subst hd
  refine ⟨?_⟩
  rw [drop_opAt hi]
  obtain ⟨i0, hi0, hz0, hz1, hz2⟩ := info_parts infoDig3
  obtain ⟨sa, c, rfl, hp⟩ := hu
  cases sa with
  | none =>
    obtain ⟨h1, h2⟩ := hnil
    have hz : ds = [] := List.eq_nil_of_length_eq_zero h1
    subst hz
    subst h2
    refine wpList_append_own_none hgd s x 22 ho base 24 i0 32 Tryd.underlying22 hi0 v _ _ hs hown (by rw [hx]; rfl) ?_
    rw [List.append_nil] at h
    exact (h v w hown ⟨rfl, rfl, rfl, Nat.le_refl _, fun _ _ _ => rfl⟩).out
  | some ad =>
    refine wpList_append_own w hgd s x 22 ho base 24 i0 (.agg (ints .u8 (List.replicate 32 0)).toArray) 32 32 Tryd.underlying22 hi0 hz0 hz1 hz2 (by show (ints .u8 (List.replicate 32 0)).toArray.size = 32; rw [List.size_toArray, ints_length, List.length_replicate]) (by decide) v _ _ hs hown
      ad ds.length c (ints .u8 ds.flatten) hx (by rw [ints_length, flat_len32 hd32]; omega) ?_ (ints_one _ _) (by unfold maxLen; omega) (by omega) hbase ?_
    · intro j u hj
      have hj2 : j < ds.flatten.length := by have := (List.getElem?_eq_some_iff.1 hj).1; rwa [ints_length] at this
      rw [flat_len32 hd32] at hj2
      obtain ⟨pb, po, e, _, hr⟩ := hp (by omega)
      obtain rfl := Option.some.inj e
      rw [Addr.add_mid]
      exact hr j u hj
    · intro v' w' h1 h2 _
      refine (h v' w' ?_ h2).out
      unfold OwnD
      rw [List.length_append, List.flatten_append, ints_append]
      exact h1
theorem run_build_nodig (w : World) : (Instr.buildSlice 22 0 #[]).run Tryd.prog w = .ok (.slice (some ⟨w.heap.size, 0, none⟩) 0 0) (w.alloc (.cells #[] 24)) := by kernel_rfl
theorem OwnD.empty (w : World) : OwnD (w.alloc (.cells #[] 24)) w.heap.size (.slice (some ⟨w.heap.size, 0, none⟩) 0 0) [] := ⟨rfl, .inr ⟨w.heap.size, 0, #[], rfl, Nat.le_refl _, heap_alloc_last w _, Nat.le_refl _, by unfold maxLen; omega, rfl, rfl⟩⟩
/-- An empty slice is answered; memory below is as before. -/
def NoDig (w : World) (e : Ending) (w' : World) : Prop := ∃ a c, e = .returned (.slice a 0 c) ∧ NilOk (.slice a 0 c) ∧ Below w.heap.size w w'
theorem sclone_zero (a : Option Addr) (c : Nat) (hnil : NilOk (.slice a 0 c)) (w : World) : Calls Tryd.prog 27 #[.slice a 0 c] w (NoDig w) := by
  obtain ⟨B, hB⟩ : ∃ B, Hid (w.heap.size = B) := ⟨_, rfl⟩
  cases a with
  | none =>
    obtain ⟨-, h2⟩ := hnil
    subst h2
    have hq : ∀ w, (binOp BinOp.eql 22 (.slice none 0 0) (.slice none 0 0)).run Tryd.prog w = .ok (.bool true) w := fun w => by kernel_rfl
    go_enter Tryd.func27, Tryd.ntmps27
    go_wp2
    go_ret
    exact ⟨none, 0, rfl, ⟨rfl, rfl⟩, Below.refl _ _⟩
  | some ad =>
    have hq : ∀ w, (binOp BinOp.eql 22 (.slice (some ad) 0 c) (.slice none 0 0)).run Tryd.prog w = .ok (.bool false) w := fun w => by kernel_rfl
    clear hnil
    go_enter Tryd.func27, Tryd.ntmps27
    go_upto_region 3 with (fail)
    refine lin_begin (opsOf Tryd.f27 3) (by kernel_rfl) ?_
    have hmk := run_build_nodig w
    have B1 : Hid (Below w.heap.size w (w.alloc (.cells #[] 24))) := (Below.refl _ _).alloc (Nat.le_refl _) _
    have O1 := OwnD.empty w
    rw [hB.out] at hmk O1
    generalize w.alloc (.cells #[] 24) = w1 at hmk B1 O1
    refine lin_value 0 (.slice (some ⟨B, 0, none⟩) 0 0) (some 5) w1 (by kernel_rfl) (by kernel_rfl) (exec_of (Instr.buildSlice 22 0 #[]) _ (by kernel_rfl) hmk) ?_
    refine lin_now 1 (.slice (some ad) 0 c) (some 6) (by kernel_rfl) (by kernel_rfl) (by kernel_rfl) ?_
    refine lin_appendd 2 (some 7) (by kernel_rfl) (by kernel_rfl) (by kernel_rfl) (.tmp 5) (.tmp 6) (by kernel_rfl) B _ [] (by kernel_rfl) O1 _ [] (by kernel_rfl) ⟨some ad, c, rfl, fun h => absurd h (by simp)⟩ (fun k hk => by cases hk) trivial (by simp) (by rw [← hB.out]; exact B1.out.size) ?_
    intro v2 w2 h2 g2
    obtain ⟨a2, c2, ev⟩ := OwnD.slice h2
    have hn2 := h2.nilok
    subst ev
    refine lin_now 3 (.slice a2 0 c2) (some 2) (by kernel_rfl) (by kernel_rfl) (by kernel_rfl) ?_
    refine lin_done 4 (by kernel_rfl) ?_
    have B2 : Hid (Below w.heap.size w w2) := B1.out.grown g2 B1.out.size (fun k hk => by simp [Value.ownBlock] at hk; rw [← hk, hB.out]; exact Nat.le_refl _)
    have N2 : Hid (NilOk (.slice a2 0 c2)) := hn2
    clear h2 g2 hmk hn2
    generalize hact : Act.put _ (some 2) _ = act
    simp only [Act.put, List.setIfInBounds_toArray, List.set_cons_succ, List.set_cons_zero] at hact
    subst hact
    go_wp2
    go_ret
    exact ⟨a2, c2, rfl, N2.out, B2.out⟩
theorem tsort_zero (a : Option Addr) (c : Nat) (hnil : NilOk (.slice a 0 c)) (w : World) : Calls Tryd.prog 14 #[.slice a 0 c] w (NoDig w) := by
  go_enter Tryd.func14, Tryd.ntmps14
  go_wp2_with fail
  refine (sclone_zero a c hnil w).mono ?_
  rintro e w1 ⟨a1, c1, rfl, n1, b1⟩
  have N1 := Lib.hid n1
  have B1 := Lib.hid b1
  clear n1 b1
  go_wp2_with fail
  refine (sortfunc_zero a1 c1 _).mono ?_
  rintro e w2 ⟨rfl, rfl⟩
  go_wp2_with fail
  refine (scompact_zero a1 c1 _).mono ?_
  rintro e w3 ⟨rfl, rfl⟩
  go_wp2
  go_ret
  exact ⟨a1, c1, rfl, N1.out, B1.out⟩
theorem okD.perm {l ds : List (List Int)} (h : okD ds) (hp : l.Perm ds) : okD l := fun d hd => h d (hp.mem_iff.1 hd)
theorem tsort_pos (u : Value) (ds : List (List Int)) (n : Nat) (w : World) (hu : DigsIn w u ds) (hn : ds.length = n) (h0 : 1 ≤ n) (hl : n ≤ 1000) (hok : okD ds) : Calls Tryd.prog 14 #[u] w (DigNew (sortS ds) w) := by
  obtain ⟨a, c, rfl, -⟩ := id hu
  have HU := Lib.hid hu
  have HN := Lib.hid hn
  have HOK := Lib.hid hok
  clear hu hok
  rw [hn]
  clear hn
  go_enter Tryd.func14, Tryd.ntmps14
  go_wp2_with fail
  have hcl := sclone_walk _ ds w HU.out (by rw [HN.out]; omega) (by rw [HN.out]; omega) HOK.out
  rw [HN.out] at hcl
  refine hcl.mono ?_
  rintro e w1 ⟨D, cap, rest, rfl, hD, hcap, hdg, hb1⟩
  rw [HN.out]
  rw [HN.out] at hcap
  have HDG := Lib.hid hdg
  have HB1 := Lib.hid hb1
  clear hdg hb1 hcl
  go_wp2_with fail
  refine (sortfunc_walk D n cap ds rest HN.out HOK.out hl _ HDG.out).mono ?_
  rintro e w2 ⟨rfl, l, hnd, hpm, hs2⟩
  have HS2 := Lib.hid hs2
  have HB2 := Lib.hid (hs2.u.below HB1.out hD HB1.out.size)
  have HE : Hid (cpt l = sortS ds) := (cpt_sorted hnd).trans (sortS_set fun z => hpm.mem_iff)
  have HLL : Hid (l.length = n) := hpm.length_eq.trans HN.out
  have HLO := Lib.hid (HOK.out.perm hpm)
  clear hs2 hnd hpm
  go_wp2_with fail
  refine (scompact_all D n cap l rest HLL.out HLO.out h0 hl hcap _ HS2.out.d).mono ?_
  rintro e w3 ⟨cap', rest', rfl, hcap3, hdg3, hu3⟩
  rw [HE.out] at hcap3 hdg3 ⊢
  have HG3 := Lib.hid hdg3
  have HB3 := Lib.hid (hu3.below HB2.out hD HB2.out.size)
  clear hdg3 hu3
  generalize sortS ds = rl at *
  go_wp2
  go_ret
  exact ⟨D, cap', rest', rfl, hD, hcap3, HG3.out, HB3.out⟩
end Go.Proofs.YtoeilaedpibboaaDoor
