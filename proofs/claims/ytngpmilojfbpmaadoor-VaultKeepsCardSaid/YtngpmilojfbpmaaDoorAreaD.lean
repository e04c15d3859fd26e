/- Package area: Add. -/
import Derived.Test.YtngpmilojfbpmaaDoorAreaC
import Derived.Test.YtngpmilojfbpmaaDoorSealJ
namespace Go.Proofs.YtngpmilojfbpmaaDoor
open Go Go.RowKit
set_option maxRecDepth 100000

theorem Step.right {A A' F : List Nat} {w w' : World} (h : Step A w A' w') : Step (A ++ F) w (A' ++ F) w' :=
  ⟨h.os, h.tape, h.output, h.size, fun k hk hF => h.block k hk (fun e => hF (List.mem_append_left _ e)), fun k hk => by
    rcases List.mem_append.1 hk with h1 | h1
    · rcases h.fresh k h1 with h2 | h2
      · exact .inl (List.mem_append_left _ h2)
      · exact .inr h2
    · exact .inl (List.mem_append_right _ h1)⟩
section
variable {w w' : World} {A F F' : List Nat} {ab d first half gen next : Nat} {rv : Value} {stuck : Bool} {recs : List (List Int)}
theorem Arx.upd (h : Arx w F ab d first half gen next rv stuck recs) (hu : Upd ab w w') {next' : Nat} {stuck' : Bool} (hb : Blk w' ab 113 (acells d first half gen next' rv stuck')) : Arx w' F ab d first half gen next' rv stuck' recs := by
  have hs : Step [ab] w [ab] w' := Step.of_upd hu (by simp)
  have hs2 : Step (afoot ab rv ++ F) w (afoot ab rv ++ F) w' := Step.of_upd hu (by simp [afoot])
  exact ⟨hb, h.hr.step hs2 ⟨_, _, hs, fun g hg => by have := h.n1 g hg; simpa using this⟩, h.n1, h.n2, h.short⟩
/-- A record more. -/
theorem Arx.added {w5 w6 w7 : World} {vs : List Value} {cv : Value} {rec : List Int} {g cap : Nat} (h : Arx w F ab d first half gen next rv stuck recs) (hF : ∀ k ∈ F, k < w.heap.size) (hvs : w.ownsRow 0 22 1 rv recs.length vs)
    (hbs : ∀ (i : Nat) (v : Value) (zs : List Int), vs[i]? = some v → recs[i]? = some zs → BytesOff (afoot ab rv ++ F) w v zs ∧ NilOk v) (hb : Below w.heap.size w w5) (hc : ∀ G : List Nat, (∀ k ∈ G, k < w.heap.size ∨ w5.heap.size ≤ k) → BytesOff G w5 cv rec) (hn : NilOk cv) (hl : rec.length ≤ 2000)
    (ho : w6.ownsRow 0 22 1 (.slice (some ⟨g, 0, none⟩) (recs.length + 1) cap) (recs.length + 1) (vs ++ [cv])) (hg : w5.grownBy w6 rv.ownBlock) (hat : rv.ownBlock = some g ∨ g = w5.heap.size)
    (hu : Upd ab w6 w7) (hb7 : Blk w7 ab 113 (acells d first half gen next (.slice (some ⟨g, 0, none⟩) (recs.length + 1) cap) stuck)) :
    Arx w7 F ab d first half gen next (.slice (some ⟨g, 0, none⟩) (recs.length + 1) cap) stuck (recs ++ [rec]) ∧ Step (afoot ab rv ++ F) w (afoot ab (.slice (some ⟨g, 0, none⟩) (recs.length + 1) cap) ++ F) w7 ∧ Step (afoot ab rv) w (afoot ab (.slice (some ⟨g, 0, none⟩) (recs.length + 1) cap)) w7 := by
  have hrlt := h.rlt
  have hgn : g ≠ ab ∧ g ∉ F := by
    rcases hat with e | e
    · exact ⟨h.n1 g e, h.n2 g (by simp [afoot, e])⟩
    · have h1 := h.hb.lt
      have h2 := hb.size
      exact ⟨by omega, fun hc => by have := hF g hc; omega⟩
  have hsz := hg.size
  have hsz7 := hu.size
  have hst0 : Step (afoot ab rv) w (afoot ab (.slice (some ⟨g, 0, none⟩) (recs.length + 1) cap)) w7 := by
    refine ⟨hu.os.trans (hg.os.trans hb.os), hu.tape.trans (hg.tape.trans hb.tape), hu.output.trans (hg.output.trans hb.output), by have := hb.size; omega, fun k hk hkF => ?_, fun k hk => ?_⟩
    · have h1 : k ≠ ab := fun e => hkF (by simp [afoot, e])
      have h2 : some k ≠ rv.ownBlock := fun e => hkF (by simp [afoot, ← e])
      have := hb.size
      rw [hu.block k (by omega) h1, hg.block k (by omega) h2, hb.block k hk]
    · simp only [afoot, Value.ownBlock, Option.toList_some, List.mem_cons, List.not_mem_nil, or_false] at hk
      rcases hk with rfl | rfl
      · exact .inl (by simp [afoot])
      · rcases hat with e | e
        · exact .inl (by simp [afoot, e])
        · exact .inr (by have := hb.size; omega)
  have hst : Step (afoot ab rv ++ F) w (afoot ab (.slice (some ⟨g, 0, none⟩) (recs.length + 1) cap) ++ F) w7 := hst0.right
  have hcv : BytesOff (afoot ab (.slice (some ⟨g, 0, none⟩) (recs.length + 1) cap) ++ F) w7 cv rec := by
    have hG : ∀ k ∈ afoot ab rv ++ (afoot ab (.slice (some ⟨g, 0, none⟩) (recs.length + 1) cap) ++ F), k < w.heap.size ∨ w5.heap.size ≤ k := fun k hk => by
      simp only [List.mem_append] at hk
      rcases hk with h1 | h1 | h1
      · exact .inl (hrlt k h1)
      · simp only [afoot, Value.ownBlock, Option.toList_some, List.mem_cons, List.not_mem_nil, or_false] at h1
        rcases h1 with rfl | rfl
        · exact .inl h.hb.lt
        · rcases hat with e | e
          · exact .inl (hrlt _ (by simp [afoot, e]))
          · exact .inr (by omega)
      · exact .inl (hF k h1)
    have s57 : Step (afoot ab rv ++ (afoot ab (.slice (some ⟨g, 0, none⟩) (recs.length + 1) cap) ++ F)) w5 (afoot ab rv ++ (afoot ab (.slice (some ⟨g, 0, none⟩) (recs.length + 1) cap) ++ F)) w7 := by
      refine ⟨hu.os.trans hg.os, hu.tape.trans hg.tape, hu.output.trans hg.output, by omega, fun k hk hkF => ?_, fun k hk => .inl hk⟩
      have h1 : k ≠ ab := fun e => hkF (by simp [afoot, e])
      have h2 : some k ≠ rv.ownBlock := fun e => hkF (by simp [afoot, ← e])
      rw [hu.block k (by omega) h1, hg.block k hk h2]
    exact ((hc _ hG).step s57).sub (fun k hk => List.mem_append_right _ hk)
  refine ⟨⟨hb7, ⟨vs ++ [cv], ?_, fun i v zs hv hz => ?_⟩, fun g' hg' => ?_, fun k hk => ?_, fun zs hz => ?_⟩, hst, hst0⟩
  · rw [List.length_append]
    exact own_upd ho hu (fun g' hg' => by
      obtain rfl : g = g' := by simpa [Value.ownBlock] using hg'
      exact hgn.1)
  · have hvl : vs.length = recs.length := by have := hvs.1; omega
    by_cases e : i < recs.length
    · rw [List.getElem?_append_left (by omega)] at hv hz
      obtain ⟨h1, h2⟩ := hbs i v zs hv hz
      exact ⟨h1.step hst, h2⟩
    · have hi : i = recs.length := by
        have := (List.getElem?_eq_some_iff.1 hz).1
        simp at this
        omega
      subst hi
      rw [List.getElem?_append_right (by omega), Nat.sub_self] at hz
      rw [List.getElem?_append_right (by omega), hvl, Nat.sub_self] at hv
      obtain rfl := Option.some.inj hz
      obtain rfl := Option.some.inj hv
      exact ⟨hcv, hn⟩
  · obtain rfl : g = g' := by simpa [Value.ownBlock] using hg'
    exact hgn.1
  · simp only [afoot, Value.ownBlock, Option.toList_some, List.mem_cons, List.not_mem_nil, or_false] at hk
    rcases hk with rfl | rfl
    · exact h.n2 _ (by simp [afoot])
    · exact hgn.2
  · rcases List.mem_append.1 hz with h1 | h1
    · exact h.short zs h1
    · obtain rfl : zs = rec := by simpa using h1
      exact hl
end
/-- A load, a call and what is made of its result: the load may come up ahead of them, between or behind. -/
theorem reg_lcr {P : Program} {ops : Array Oper} {Q : Exit → Act → World → Prop} {fuel : Nat} {listed : Array Bool} {a : Act} {w : World} (i j k : Nat) (vi : Value) (di dj dk : Tmp) (f : FuncId) (args : Array Value) (R : Ending → World → Prop)
    (hst : (ops[i]?.isSome && ops[j]?.isSome && ops[k]?.isSome && (opAt ops i).guard.isNone && (opAt ops j).guard.isNone && (opAt ops k).guard.isNone && (Region.ready .any ops listed == [i, j]) && (Region.ready .any ops (listed.setIfInBounds i true) == [j]) && (Region.ready .any ops (listed.setIfInBounds j true) == [i, k])
      && (Region.ready .any ops ((listed.setIfInBounds i true).setIfInBounds j true) == [k]) && (Region.ready .any ops ((listed.setIfInBounds j true).setIfInBounds i true) == [k]) && (Region.ready .any ops ((listed.setIfInBounds j true).setIfInBounds k true) == [i])) = true)
    (hdi : (opAt ops i).dst = some di) (hdj : (opAt ops j).dst = some dj) (hdk : (opAt ops k).dst = some dk) (nij : di ≠ dj) (nik : di ≠ dk) (eij : i ≠ j) (eik : i ≠ k)
    (hi0 : (execOp a.eval (opAt ops i)).run P w = .ok (.value vi) w) (hi1 : ∀ vj w1, Below w.heap.size w w1 → (execOp (a.put (some dj) vj).eval (opAt ops i)).run P w1 = .ok (.value vi) w1) (hi2 : ∀ vj vk w1, Below w.heap.size w w1 → (execOp ((a.put (some dj) vj).put (some dk) vk).eval (opAt ops i)).run P w1 = .ok (.value vi) w1)
    (hj0 : (execOp a.eval (opAt ops j)).run P w = .ok (.enter f args) w) (hj1 : (execOp (a.put (some di) vi).eval (opAt ops j)).run P w = .ok (.enter f args) w) (hc : Calls P f args w R)
    (h : ∀ e w5, R e w5 → Below w.heap.size w w5 ∧ ∃ vj, e = .returned vj ∧ ∃ vk w6, Below w.heap.size w w6 ∧ (execOp (a.put (some dj) vj).eval (opAt ops k)).run P w5 = .ok (.value vk) w6 ∧ (execOp ((a.put (some di) vi).put (some dj) vj).eval (opAt ops k)).run P w5 = .ok (.value vk) w6 ∧
      wpAnyH P .any ops Q (fun _ => True) fuel (((listed.setIfInBounds i true).setIfInBounds j true).setIfInBounds k true) (((a.put (some di) vi).put (some dj) vj).put (some dk) vk) w6) : wpAnyH P .any ops Q (fun _ => True) (fuel + 3) listed a w := by
  simp only [Bool.and_eq_true, beq_iff_eq] at hst
  obtain ⟨⟨⟨⟨⟨⟨⟨⟨⟨⟨⟨g1, g2⟩, g3⟩, n1⟩, n2⟩, n3⟩, r0⟩, ri⟩, rj⟩, rij⟩, rji⟩, rjk⟩ := hst
  have wi : ∀ y, Region.wanted (opAt ops i) y = true := fun y => by simp [Region.wanted, Option.isNone_iff_eq_none.1 n1]
  have wj : ∀ y, Region.wanted (opAt ops j) y = true := fun y => by simp [Region.wanted, Option.isNone_iff_eq_none.1 n2]
  have wk : ∀ y, Region.wanted (opAt ops k) y = true := fun y => by simp [Region.wanted, Option.isNone_iff_eq_none.1 n3]
  have cij : ∀ (b : Act) (v u : Value), (b.put (some dj) u).put (some di) v = (b.put (some di) v).put (some dj) u := fun b v u => Act.put_comm b u v (fun d h1 h2 => nij (by cases h1; cases h2; rfl))
  have cik : ∀ (b : Act) (v u : Value), (b.put (some dk) u).put (some di) v = (b.put (some di) v).put (some dk) u := fun b v u => Act.put_comm b u v (fun d h1 h2 => nik (by cases h1; cases h2; rfl))
  refine wpAnyH_two r0 ?_ ?_
  · refine wpOp_value vi (get_opAt g1) (wi _) hi0 ⟨trivial, wpAnyH_one ri ?_⟩
    rw [hdi]
    refine wpOp_callE f args R (get_opAt g2) (wj _) hj1 hc (fun e w5 hR => ?_)
    obtain ⟨_, vj, rfl, vk, w6, _, _, h2, h3⟩ := h e w5 hR
    refine ⟨vj, rfl, trivial, wpAnyH_one rij ?_⟩
    rw [hdj]
    refine wpOp_value vk (get_opAt g3) (wk _) h2 ⟨trivial, ?_⟩
    rw [hdk]
    exact h3
  · refine wpOp_callE f args R (get_opAt g2) (wj _) hj0 hc (fun e w5 hR => ?_)
    obtain ⟨hb5, vj, rfl, vk, w6, hb6, h1, h2, h3⟩ := h e w5 hR
    refine ⟨vj, rfl, trivial, ?_⟩
    rw [hdj]
    refine wpAnyH_two rj ?_ ?_
    · refine wpOp_value vi (get_opAt g1) (wi _) (hi1 vj w5 hb5) ⟨trivial, wpAnyH_one rji ?_⟩
      rw [hdi, cij]
      refine wpOp_value vk (get_opAt g3) (wk _) h2 ⟨trivial, ?_⟩
      rw [hdk, Array.setIfInBounds_comm _ _ (Ne.symm eij)]
      exact h3
    · refine wpOp_value vk (get_opAt g3) (wk _) h1 ⟨trivial, wpAnyH_one rjk ?_⟩
      rw [hdk]
      refine wpOp_value vi (get_opAt g1) (wi _) (hi2 vj vk w6 hb6) ⟨trivial, ?_⟩
      rw [hdi, cik, cij, Array.setIfInBounds_comm _ _ (Ne.symm eik), Array.setIfInBounds_comm _ _ (Ne.symm eij)]
      exact h3
theorem run_build_row (a : Option Addr) (n c : Nat) (w : World) : (Instr.buildSlice 75 1 #[(0, .slice a n c)]).run Tryd.prog w = .ok (.slice (some ⟨w.heap.size, 0, none⟩) 1 1) (w.alloc (.cells [.slice a n c].toArray 22)) := by kernel_rfl
set_option maxHeartbeats 4000000 in
theorem add_long {w : World} {A F : List Nat} {ab d first half gen next : Nat} {stuck : Bool} {recs : List (List Int)} (h : Ar w A F ab d first half gen next stuck recs) (ua : Option Addr) (n uc : Nat) (hn : 2000 < n) :
    Calls Tryd.prog 38 #[.pointer (some ⟨ab, 0, none⟩), .slice ua n uc] w fun e w' => e = .returned (.int .i64 10) ∧ Below w.heap.size w w' := by
  obtain ⟨rv, -, hx⟩ := h
  have HX := Lib.hid hx
  have NOK : Hid (¬ okPack (gen : Int) (next : Int) n) := fun h => by have := h.1; omega
  clear hx
  go_enter Tryd.func38, Tryd.ntmps38
  go_upto_region 1 with (fail)
  refine region_begin (opsOf Tryd.f38 1) (fun w' => Blk w' ab 113 (acells d first half gen next rv stuck)) (by kernel_rfl) (by kernel_rfl) 15 (by kernel_rfl) ?_
  intro Q' hQN hN
  have hS : Blk w.drew ab 113 (acells d first half gen next rv stuck) := HX.out.hb
  refine reg_now 0 (.pointer (some ⟨ab, 0, none⟩)) (some 8) hQN hS (by kernel_rfl) (by kernel_rfl) (fun w => by kernel_rfl) ?_
  refine reg_now 1 (.pointer (some ⟨ab, 0, none⟩)) (some 9) hQN hS (by kernel_rfl) (by kernel_rfl) (fun w => by kernel_rfl) ?_
  refine reg_now 2 (.pointer (some ⟨ab, 3, none⟩)) (some 10) hQN hS (by kernel_rfl) (by kernel_rfl) (fun w => by kernel_rfl) ?_
  refine reg_nowIf 3 (.int .i64 (gen : Int)) (some 11) hQN hS (by kernel_rfl) (by kernel_rfl) (fun w' hw => exec_load_cell 3 (.tmp 10) (by kernel_rfl) ab 3 (by kernel_rfl) _ (hw.cell rfl) _ Tryd.underlying3 rfl) ?_
  refine reg_now 4 (.pointer (some ⟨ab, 0, none⟩)) (some 12) hQN hS (by kernel_rfl) (by kernel_rfl) (fun w => by kernel_rfl) ?_
  refine reg_now 5 (.pointer (some ⟨ab, 0, none⟩)) (some 13) hQN hS (by kernel_rfl) (by kernel_rfl) (fun w => by kernel_rfl) ?_
  refine reg_now 6 (.pointer (some ⟨ab, 4, none⟩)) (some 14) hQN hS (by kernel_rfl) (by kernel_rfl) (fun w => by kernel_rfl) ?_
  refine reg_nowIf 7 (.int .i64 (next : Int)) (some 15) hQN hS (by kernel_rfl) (by kernel_rfl) (fun w' hw => exec_load_cell 3 (.tmp 14) (by kernel_rfl) ab 4 (by kernel_rfl) _ (hw.cell rfl) _ Tryd.underlying3 rfl) ?_
  refine reg_now 8 (.slice ua n uc) (some 16) hQN hS (by kernel_rfl) (by kernel_rfl) (fun w => by kernel_rfl) ?_
  refine reg_call 9 68 #[.int .i64 (gen : Int), .int .i64 (next : Int), .slice ua n uc] (some 17) _ (by kernel_rfl) (by kernel_rfl) (by kernel_rfl) (pack_no (gen : Int) (next : Int) ua n uc _ NOK.out) ?_
  rintro e w1 ⟨rfl, rfl⟩
  refine ⟨_, rfl, hS, ?_⟩
  refine reg_now 10 (.tuple #[.slice none 0 0, .bool false]) (some 7) hQN hS (by kernel_rfl) (by kernel_rfl) (fun w => by kernel_rfl) ?_
  refine reg_now 11 (.slice none 0 0) (some 18) hQN hS (by kernel_rfl) (by kernel_rfl) (fun w => by kernel_rfl) ?_
  refine reg_now 12 (.bool false) (some 19) hQN hS (by kernel_rfl) (by kernel_rfl) (fun w => by kernel_rfl) ?_
  refine reg_now 13 (.slice none 0 0) (some 5) hQN hS (by kernel_rfl) (by kernel_rfl) (fun w => by kernel_rfl) ?_
  refine reg_now 14 (.bool false) (some 6) hQN hS (by kernel_rfl) (by kernel_rfl) (fun w => by kernel_rfl) ?_
  refine reg_done (by kernel_rfl) (hN _ _ ?_)
  clear hQN hN hS
  generalize hact : Act.put _ (some 6) _ = act
  simp only [Act.put, List.setIfInBounds_toArray, List.set_cons_succ, List.set_cons_zero] at hact
  subst hact
  go_wp2
  go_ret
  exact ⟨rfl, (Below.refl _ _).drew⟩
set_option maxHeartbeats 4000000 in
theorem add_full {w : World} {A F : List Nat} {ab d first half gen next : Nat} {stuck : Bool} {recs : List (List Int)} (h : Ar w A F ab d first half gen next stuck recs) (u : Value) (rec : List Int) (hu : BytesOff (A ++ F) w u rec) (hnl : NilOk u) (hK : KW w) (hl : rec.length ≤ 2000) (hg1 : 1 ≤ gen) (hg2 : gen ≤ 4294967295) (hnh : next ≤ half) (hhm : half ≤ 4096) (hfit : stuck = true ∨ half - next < needN rec.length) :
    Calls Tryd.prog 38 #[.pointer (some ⟨ab, 0, none⟩), u] w fun e w' => e = .returned (.int .i64 15) ∧ Below w.heap.size w w' := by
  obtain ⟨rv, hA, hx⟩ := h
  subst hA
  have HX := Lib.hid hx
  have HU := Lib.hid hu
  have HNI := Lib.hid hnl
  have HK := Lib.hid hK
  obtain ⟨ua, uc, rfl, -⟩ := id hu
  obtain ⟨n, hn⟩ : ∃ n, Hid (rec.length = n) := ⟨_, rfl⟩
  obtain ⟨kn, hkn⟩ : ∃ kn, Hid (needN n = kn) := ⟨_, rfl⟩
  rw [hn.out] at hl hfit HU HNI ⊢
  rw [hkn.out] at hfit
  try rw [hkn.out]
  have k1 : 1 ≤ kn := by have := needN_pos n; rw [hkn.out] at this; exact this
  have k45 : kn ≤ 45 := by have := needN_le n hl; rw [hkn.out] at this; exact this
  have OK : Hid (okPack (gen : Int) (next : Int) rec.length) := by unfold Hid; rw [hn.out]; exact ⟨hl, by omega, by omega, by omega, by rw [hkn.out]; omega⟩
  clear hx hu hnl hK
  go_enter Tryd.func38, Tryd.ntmps38
  go_upto_region 1 with (fail)
  refine region_begin (opsOf Tryd.f38 1) (fun w' => Blk w' ab 113 (acells d first half gen next rv stuck)) (by kernel_rfl) (by kernel_rfl) 15 (by kernel_rfl) ?_
  intro Q' hQN hN
  have hS : Blk w.drew ab 113 (acells d first half gen next rv stuck) := HX.out.hb
  refine reg_now 0 (.pointer (some ⟨ab, 0, none⟩)) (some 8) hQN hS (by kernel_rfl) (by kernel_rfl) (fun w => by kernel_rfl) ?_
  refine reg_now 1 (.pointer (some ⟨ab, 0, none⟩)) (some 9) hQN hS (by kernel_rfl) (by kernel_rfl) (fun w => by kernel_rfl) ?_
  refine reg_now 2 (.pointer (some ⟨ab, 3, none⟩)) (some 10) hQN hS (by kernel_rfl) (by kernel_rfl) (fun w => by kernel_rfl) ?_
  refine reg_nowIf 3 (.int .i64 (gen : Int)) (some 11) hQN hS (by kernel_rfl) (by kernel_rfl) (fun w' hw => exec_load_cell 3 (.tmp 10) (by kernel_rfl) ab 3 (by kernel_rfl) _ (hw.cell rfl) _ Tryd.underlying3 rfl) ?_
  refine reg_now 4 (.pointer (some ⟨ab, 0, none⟩)) (some 12) hQN hS (by kernel_rfl) (by kernel_rfl) (fun w => by kernel_rfl) ?_
  refine reg_now 5 (.pointer (some ⟨ab, 0, none⟩)) (some 13) hQN hS (by kernel_rfl) (by kernel_rfl) (fun w => by kernel_rfl) ?_
  refine reg_now 6 (.pointer (some ⟨ab, 4, none⟩)) (some 14) hQN hS (by kernel_rfl) (by kernel_rfl) (fun w => by kernel_rfl) ?_
  refine reg_nowIf 7 (.int .i64 (next : Int)) (some 15) hQN hS (by kernel_rfl) (by kernel_rfl) (fun w' hw => exec_load_cell 3 (.tmp 14) (by kernel_rfl) ab 4 (by kernel_rfl) _ (hw.cell rfl) _ Tryd.underlying3 rfl) ?_
  refine reg_now 8 (.slice ua n uc) (some 16) hQN hS (by kernel_rfl) (by kernel_rfl) (fun w => by kernel_rfl) ?_
  refine reg_call 9 68 #[.int .i64 (gen : Int), .int .i64 (next : Int), .slice ua n uc] (some 17) _ (by kernel_rfl) (by kernel_rfl) (by kernel_rfl) (pack_ok gen next _ rec _ (HU.out.in.drewN 1) HNI.out OK.out HK.out) ?_
  rintro e w1 ⟨G, rfl, hG, hblk, hb1⟩
  refine ⟨_, rfl, hS.below hb1 hS.lt, ?_⟩
  rw [hn.out, hkn.out]
  refine reg_now 10 (.tuple #[.slice (some ⟨G, 0, none⟩) kn kn, .bool true]) (some 7) hQN (hS.below hb1 hS.lt) (by kernel_rfl) (by kernel_rfl) (fun w => by kernel_rfl) ?_
  refine reg_now 11 (.slice (some ⟨G, 0, none⟩) kn kn) (some 18) hQN (hS.below hb1 hS.lt) (by kernel_rfl) (by kernel_rfl) (fun w => by kernel_rfl) ?_
  refine reg_now 12 (.bool true) (some 19) hQN (hS.below hb1 hS.lt) (by kernel_rfl) (by kernel_rfl) (fun w => by kernel_rfl) ?_
  refine reg_now 13 (.slice (some ⟨G, 0, none⟩) kn kn) (some 5) hQN (hS.below hb1 hS.lt) (by kernel_rfl) (by kernel_rfl) (fun w => by kernel_rfl) ?_
  refine reg_now 14 (.bool true) (some 6) hQN (hS.below hb1 hS.lt) (by kernel_rfl) (by kernel_rfl) (fun w => by kernel_rfl) ?_
  refine reg_done (by kernel_rfl) (hN _ _ ?_)
  have BE1 : Below w.heap.size w w1 := (Below.refl _ _).drew.trans hb1
  have X1 := Lib.hid (HX.out.below BE1)
  have B1 := Lib.hid BE1
  clear hQN hN hS BE1 hblk hb1 hG HX HU HNI HK OK
  generalize hact : Act.put _ (some 6) _ = act
  simp only [Act.put, List.setIfInBounds_toArray, List.set_cons_succ, List.set_cons_zero] at hact
  subst hact
  cases stuck with
  | true =>
    go_upto_region 4 with (fail)
    refine lin_begin (opsOf Tryd.f38 4) (by kernel_rfl) ?_
    refine lin_now 0 (.pointer (some ⟨ab, 0, none⟩)) (some 22) (by kernel_rfl) (by kernel_rfl) (by kernel_rfl) ?_
    refine lin_now 1 (.pointer (some ⟨ab, 0, none⟩)) (some 23) (by kernel_rfl) (by kernel_rfl) (by kernel_rfl) ?_
    refine lin_now 2 (.pointer (some ⟨ab, 6, none⟩)) (some 24) (by kernel_rfl) (by kernel_rfl) (by kernel_rfl) ?_
    refine lin_now 3 (.bool true) (some 25) (by kernel_rfl) (by kernel_rfl) (exec_load_cell 4 (.tmp 24) (by kernel_rfl) ab 6 (by kernel_rfl) _ X1.out.c6 _ Tryd.underlying4 rfl) ?_
    refine lin_now 4 (.bool true) (some 26) (by kernel_rfl) (by kernel_rfl) (by kernel_rfl) ?_
    refine lin_pass 5 (some 27) (by kernel_rfl) (by kernel_rfl) ?_
    refine lin_pass 6 (some 28) (by kernel_rfl) (by kernel_rfl) ?_
    refine lin_pass 7 (some 29) (by kernel_rfl) (by kernel_rfl) ?_
    refine lin_pass 8 (some 30) (by kernel_rfl) (by kernel_rfl) ?_
    refine lin_pass 9 (some 31) (by kernel_rfl) (by kernel_rfl) ?_
    refine lin_now 10 (.bool true) (some 32) (by kernel_rfl) (by kernel_rfl) (by kernel_rfl) ?_
    refine lin_done 11 (by kernel_rfl) ?_
    generalize hact : Act.put _ (some 32) _ = act
    simp only [Act.put, List.setIfInBounds_toArray, List.set_cons_succ, List.set_cons_zero] at hact
    subst hact
    go_wp2
    go_ret
    exact ⟨rfl, B1.out⟩
  | false =>
    go_upto_region 4 with (fail)
    refine lin_begin (opsOf Tryd.f38 4) (by kernel_rfl) ?_
    refine lin_now 0 (.pointer (some ⟨ab, 0, none⟩)) (some 22) (by kernel_rfl) (by kernel_rfl) (by kernel_rfl) ?_
    refine lin_now 1 (.pointer (some ⟨ab, 0, none⟩)) (some 23) (by kernel_rfl) (by kernel_rfl) (by kernel_rfl) ?_
    refine lin_now 2 (.pointer (some ⟨ab, 6, none⟩)) (some 24) (by kernel_rfl) (by kernel_rfl) (by kernel_rfl) ?_
    refine lin_now 3 (.bool false) (some 25) (by kernel_rfl) (by kernel_rfl) (exec_load_cell 4 (.tmp 24) (by kernel_rfl) ab 6 (by kernel_rfl) _ X1.out.c6 _ Tryd.underlying4 rfl) ?_
    refine lin_now 4 (.bool false) (some 26) (by kernel_rfl) (by kernel_rfl) (by kernel_rfl) ?_
    refine lin_now 5 (.slice (some ⟨G, 0, none⟩) kn kn) (some 27) (by kernel_rfl) (by kernel_rfl) (by kernel_rfl) ?_
    refine lin_now 6 (.int .i64 (kn : Int)) (some 28) (by kernel_rfl) (by kernel_rfl) (by kernel_rfl) ?_
    refine lin_now 7 (.pointer (some ⟨ab, 0, none⟩)) (some 29) (by kernel_rfl) (by kernel_rfl) (by kernel_rfl) ?_
    refine lin_call 8 62 #[.pointer (some ⟨ab, 0, none⟩)] (some 30) _ (by kernel_rfl) (by kernel_rfl) (by kernel_rfl) (arfree_walk ⟨rv, rfl, X1.out⟩ hnh hhm) ?_
    rintro e w2 ⟨rfl, nd, rfl⟩
    refine ⟨_, rfl, ?_⟩
    have hf2 : half - next < kn := by rcases hfit with h | h; exact absurd h (by simp); exact h
    have q0 : decide (((half - next : Nat) : Int) < (kn : Int)) = true := by rw [decide_eq_true_iff]; omega
    refine lin_now 9 (.bool (decide (((half - next : Nat) : Int) < (kn : Int)))) (some 31) (by kernel_rfl) (by kernel_rfl) (by kernel_rfl) ?_
    rw [q0]
    refine lin_now 10 (.bool true) (some 32) (by kernel_rfl) (by kernel_rfl) (by kernel_rfl) ?_
    refine lin_done 11 (by kernel_rfl) ?_
    generalize hact : Act.put _ (some 32) _ = act
    simp only [Act.put, List.setIfInBounds_toArray, List.set_cons_succ, List.set_cons_zero] at hact
    subst hact
    go_wp2
    go_ret
    exact ⟨rfl, B1.out.trans (below_drewN _ _ |>.mono B1.out.size)⟩
set_option maxHeartbeats 4000000 in
theorem add_stop {w : World} {A F : List Nat} (E : List Nat) {ab d first half gen next : Nat} {recs : List (List Int)} (h : Ar w A (E ++ F) ab d first half gen next false recs) (u : Value) (rec : List Int) (hu : BytesOff (A ++ F) w u rec) (hnl : NilOk u) (hK : KW w) (hl : rec.length ≤ 2000) (hg1 : 1 ≤ gen) (hg2 : gen ≤ 4294967295) (hnh : next ≤ half) (hhm : half ≤ 4096) (hfit : needN rec.length ≤ half - next) (sz : Nat) (seen dur : List Int) (pend : List Wr) (left : Int) (hd : Dk w F d sz seen dur pend left) (hfh : first + half ≤ sz) (hlm : left ≤ 9223372036854775807) (hm : pend.length ≤ 900000) (hdone : doneN left (needN rec.length) < needN rec.length) :
    Calls Tryd.prog 38 #[.pointer (some ⟨ab, 0, none⟩), u] w fun e w' => e = .returned (.int .i64 15) ∧ ∃ F', Ar w' A (E ++ F') ab d first half gen next true recs ∧ Dk w' F' d sz (putsK seen (first + next) (packF gen next rec) (doneN left (needN rec.length))) dur (pend ++ wrsAt (first + next) (packF gen next rec) (doneN left (needN rec.length))) (leftK left (doneN left (needN rec.length))) ∧ Step (A ++ F) w (A ++ F') w' := by
  have HD := Lib.hid hd
  have hsz : sz ≤ 4096 := by obtain ⟨sB, dB, sc, dc, rs, rd, pv, -, hx⟩ := id hd; exact hx.big
  obtain ⟨dn, hdn⟩ : ∃ dn, Hid (doneN left (needN rec.length) = dn) := ⟨_, rfl⟩
  rw [hdn.out] at hdone ⊢
  clear hd
  obtain ⟨rv, hA, hx⟩ := h
  subst hA
  have HX := Lib.hid hx
  have HU := Lib.hid hu
  have HNI := Lib.hid hnl
  have HK := Lib.hid hK
  obtain ⟨ua, uc, rfl, -⟩ := id hu
  obtain ⟨n, hn⟩ : ∃ n, Hid (rec.length = n) := ⟨_, rfl⟩
  obtain ⟨kn, hkn⟩ : ∃ kn, Hid (needN n = kn) := ⟨_, rfl⟩
  rw [hn.out] at hl hfit HU HNI ⊢
  rw [hkn.out] at hfit
  try rw [hkn.out]
  have k1 : 1 ≤ kn := by have := needN_pos n; rw [hkn.out] at this; exact this
  have k45 : kn ≤ 45 := by have := needN_le n hl; rw [hkn.out] at this; exact this
  have OK : Hid (okPack (gen : Int) (next : Int) rec.length) := by unfold Hid; rw [hn.out]; exact ⟨hl, by omega, by omega, by omega, by rw [hkn.out]; omega⟩
  clear hx hu hnl hK
  go_enter Tryd.func38, Tryd.ntmps38
  go_upto_region 1 with (fail)
  refine region_begin (opsOf Tryd.f38 1) (fun w' => Blk w' ab 113 (acells d first half gen next rv false)) (by kernel_rfl) (by kernel_rfl) 15 (by kernel_rfl) ?_
  intro Q' hQN hN
  have hS : Blk w.drew ab 113 (acells d first half gen next rv false) := HX.out.hb
  refine reg_now 0 (.pointer (some ⟨ab, 0, none⟩)) (some 8) hQN hS (by kernel_rfl) (by kernel_rfl) (fun w => by kernel_rfl) ?_
  refine reg_now 1 (.pointer (some ⟨ab, 0, none⟩)) (some 9) hQN hS (by kernel_rfl) (by kernel_rfl) (fun w => by kernel_rfl) ?_
  refine reg_now 2 (.pointer (some ⟨ab, 3, none⟩)) (some 10) hQN hS (by kernel_rfl) (by kernel_rfl) (fun w => by kernel_rfl) ?_
  refine reg_nowIf 3 (.int .i64 (gen : Int)) (some 11) hQN hS (by kernel_rfl) (by kernel_rfl) (fun w' hw => exec_load_cell 3 (.tmp 10) (by kernel_rfl) ab 3 (by kernel_rfl) _ (hw.cell rfl) _ Tryd.underlying3 rfl) ?_
  refine reg_now 4 (.pointer (some ⟨ab, 0, none⟩)) (some 12) hQN hS (by kernel_rfl) (by kernel_rfl) (fun w => by kernel_rfl) ?_
  refine reg_now 5 (.pointer (some ⟨ab, 0, none⟩)) (some 13) hQN hS (by kernel_rfl) (by kernel_rfl) (fun w => by kernel_rfl) ?_
  refine reg_now 6 (.pointer (some ⟨ab, 4, none⟩)) (some 14) hQN hS (by kernel_rfl) (by kernel_rfl) (fun w => by kernel_rfl) ?_
  refine reg_nowIf 7 (.int .i64 (next : Int)) (some 15) hQN hS (by kernel_rfl) (by kernel_rfl) (fun w' hw => exec_load_cell 3 (.tmp 14) (by kernel_rfl) ab 4 (by kernel_rfl) _ (hw.cell rfl) _ Tryd.underlying3 rfl) ?_
  refine reg_now 8 (.slice ua n uc) (some 16) hQN hS (by kernel_rfl) (by kernel_rfl) (fun w => by kernel_rfl) ?_
  refine reg_call 9 68 #[.int .i64 (gen : Int), .int .i64 (next : Int), .slice ua n uc] (some 17) _ (by kernel_rfl) (by kernel_rfl) (by kernel_rfl) (pack_ok gen next _ rec _ (HU.out.in.drewN 1) HNI.out OK.out HK.out) ?_
  rintro e w1 ⟨G, rfl, hG, hblk, hb1⟩
  refine ⟨_, rfl, hS.below hb1 hS.lt, ?_⟩
  rw [hn.out, hkn.out]
  refine reg_now 10 (.tuple #[.slice (some ⟨G, 0, none⟩) kn kn, .bool true]) (some 7) hQN (hS.below hb1 hS.lt) (by kernel_rfl) (by kernel_rfl) (fun w => by kernel_rfl) ?_
  refine reg_now 11 (.slice (some ⟨G, 0, none⟩) kn kn) (some 18) hQN (hS.below hb1 hS.lt) (by kernel_rfl) (by kernel_rfl) (fun w => by kernel_rfl) ?_
  refine reg_now 12 (.bool true) (some 19) hQN (hS.below hb1 hS.lt) (by kernel_rfl) (by kernel_rfl) (fun w => by kernel_rfl) ?_
  refine reg_now 13 (.slice (some ⟨G, 0, none⟩) kn kn) (some 5) hQN (hS.below hb1 hS.lt) (by kernel_rfl) (by kernel_rfl) (fun w => by kernel_rfl) ?_
  refine reg_now 14 (.bool true) (some 6) hQN (hS.below hb1 hS.lt) (by kernel_rfl) (by kernel_rfl) (fun w => by kernel_rfl) ?_
  refine reg_done (by kernel_rfl) (hN _ _ ?_)
  have BE1 : Below w.heap.size w w1 := (Below.refl _ _).drew.trans hb1
  have X1 := Lib.hid (HX.out.below BE1)
  have B1 := Lib.hid BE1
  have D1 := Lib.hid (HD.out.below BE1)
  have GB : Hid (Blk w1 G 91 (ints .u8 (packF gen next rec))) := hblk
  have GF : Hid (G ∉ F) := fun hc => by have := HD.out.lt G hc; have h2 : w.heap.size ≤ G := hG; omega
  have U1 : Hid (BytesOff (afoot ab rv ++ F) w1 (.slice ua n uc) rec) := HU.out.step (Step.of_below BE1 (Nat.le_refl _))
  clear hQN hN hS BE1 hblk hb1 hG HX HU HK OK HD
  generalize hact : Act.put _ (some 6) _ = act
  simp only [Act.put, List.setIfInBounds_toArray, List.set_cons_succ, List.set_cons_zero] at hact
  subst hact
  go_upto_region 4 with (fail)
  refine lin_begin (opsOf Tryd.f38 4) (by kernel_rfl) ?_
  refine lin_now 0 (.pointer (some ⟨ab, 0, none⟩)) (some 22) (by kernel_rfl) (by kernel_rfl) (by kernel_rfl) ?_
  refine lin_now 1 (.pointer (some ⟨ab, 0, none⟩)) (some 23) (by kernel_rfl) (by kernel_rfl) (by kernel_rfl) ?_
  refine lin_now 2 (.pointer (some ⟨ab, 6, none⟩)) (some 24) (by kernel_rfl) (by kernel_rfl) (by kernel_rfl) ?_
  refine lin_now 3 (.bool false) (some 25) (by kernel_rfl) (by kernel_rfl) (exec_load_cell 4 (.tmp 24) (by kernel_rfl) ab 6 (by kernel_rfl) _ X1.out.c6 _ Tryd.underlying4 rfl) ?_
  refine lin_now 4 (.bool false) (some 26) (by kernel_rfl) (by kernel_rfl) (by kernel_rfl) ?_
  refine lin_now 5 (.slice (some ⟨G, 0, none⟩) kn kn) (some 27) (by kernel_rfl) (by kernel_rfl) (by kernel_rfl) ?_
  refine lin_now 6 (.int .i64 (kn : Int)) (some 28) (by kernel_rfl) (by kernel_rfl) (by kernel_rfl) ?_
  refine lin_now 7 (.pointer (some ⟨ab, 0, none⟩)) (some 29) (by kernel_rfl) (by kernel_rfl) (by kernel_rfl) ?_
  refine lin_call 8 62 #[.pointer (some ⟨ab, 0, none⟩)] (some 30) _ (by kernel_rfl) (by kernel_rfl) (by kernel_rfl) (arfree_walk ⟨rv, rfl, X1.out⟩ hnh hhm) ?_
  rintro e w2 ⟨rfl, nd, rfl⟩
  refine ⟨_, rfl, ?_⟩
  have q0 : decide (((half - next : Nat) : Int) < (kn : Int)) = false := by rw [decide_eq_false_iff_not]; omega
  refine lin_now 9 (.bool (decide (((half - next : Nat) : Int) < (kn : Int)))) (some 31) (by kernel_rfl) (by kernel_rfl) (by kernel_rfl) ?_
  rw [q0]
  refine lin_now 10 (.bool false) (some 32) (by kernel_rfl) (by kernel_rfl) (by kernel_rfl) ?_
  refine lin_done 11 (by kernel_rfl) ?_
  have BD := below_drewN w1 nd
  have X2 := Lib.hid (X1.out.below BD)
  have D2 := Lib.hid (D1.out.below BD)
  have GB2 := Lib.hid (GB.out.below BD GB.out.lt)
  have B2 : Hid (Below w.heap.size w (w1.drewN nd)) := B1.out.trans (BD.mono B1.out.size)
  have U2 : Hid (BytesOff (afoot ab rv ++ F) (w1.drewN nd) (.slice ua n uc) rec) := U1.out.step (Step.of_below BD (Nat.le_refl _))
  generalize w1.drewN nd = W2 at *
  clear BD X1 D1 GB B1 U1
  generalize hact : Act.put _ (some 32) _ = act
  simp only [Act.put, List.setIfInBounds_toArray, List.set_cons_succ, List.set_cons_zero] at hact
  subst hact
  go_upto_region 6 with (fail)
  refine lin_begin (opsOf Tryd.f38 6) (by kernel_rfl) ?_
  refine lin_now 0 (.pointer (some ⟨ab, 0, none⟩)) (some 33) (by kernel_rfl) (by kernel_rfl) (by kernel_rfl) ?_
  refine lin_now 1 (.pointer (some ⟨ab, 0, none⟩)) (some 34) (by kernel_rfl) (by kernel_rfl) (by kernel_rfl) ?_
  refine lin_now 2 (.pointer (some ⟨ab, 0, none⟩)) (some 35) (by kernel_rfl) (by kernel_rfl) (by kernel_rfl) ?_
  refine lin_now 3 (.pointer (some ⟨ab, 4, none⟩)) (some 36) (by kernel_rfl) (by kernel_rfl) (by kernel_rfl) ?_
  refine lin_now 4 (.int .i64 (next : Int)) (some 37) (by kernel_rfl) (by kernel_rfl) (exec_load_cell 3 (.tmp 36) (by kernel_rfl) ab 4 (by kernel_rfl) _ X2.out.c4 _ Tryd.underlying3 rfl) ?_
  refine lin_now 5 (.slice (some ⟨G, 0, none⟩) kn kn) (some 38) (by kernel_rfl) (by kernel_rfl) (by kernel_rfl) ?_
  refine lin_call 6 69 #[.pointer (some ⟨ab, 0, none⟩), .int .i64 (next : Int), .slice (some ⟨G, 0, none⟩) kn kn] (some 39) _ (by kernel_rfl) (by kernel_rfl) (by kernel_rfl) (arwrite_walk E ⟨rv, rfl, X2.out⟩ sz seen dur pend left D2.out next G kn kn (packF gen next rec) GB2.out GF.out (by rw [packF_length, hn.out, hkn.out]) (by omega) hsz hlm (by omega)) ?_
  rintro e w3 ⟨rfl, F3, hd3, hs3⟩
  refine ⟨_, rfl, ?_⟩
  rw [hn.out, hkn.out] at hdn
  rw [hdn.out] at hd3 ⊢
  have e3 : decide (dn = kn) = false := by rw [decide_eq_false_iff_not]; rw [hn.out, hkn.out] at hdone; omega
  rw [e3]
  refine lin_now 7 (.bool true) (some 40) (by kernel_rfl) (by kernel_rfl) (by kernel_rfl) ?_
  refine lin_done 8 (by kernel_rfl) ?_
  have X3 := Lib.hid (X2.out.disk (hs3.left (A := E)))
  have D3 := Lib.hid hd3
  have S3 : Hid (Step (afoot ab rv ++ F) w (afoot ab rv ++ F3) w3) := (Step.of_below B2.out (Nat.le_refl _)).trans hs3.left
  clear hd3 hs3 X2 D2 GB2 U2 B2
  generalize hact : Act.put _ (some 40) _ = act
  simp only [Act.put, List.setIfInBounds_toArray, List.set_cons_succ, List.set_cons_zero] at hact
  subst hact
  go_upto_region 7 with (fail)
  refine lin_begin (opsOf Tryd.f38 7) (by kernel_rfl) ?_
  refine lin_now 0 (.pointer (some ⟨ab, 0, none⟩)) (some 41) (by kernel_rfl) (by kernel_rfl) (by kernel_rfl) ?_
  refine lin_now 1 (.pointer (some ⟨ab, 0, none⟩)) (some 42) (by kernel_rfl) (by kernel_rfl) (by kernel_rfl) ?_
  refine lin_now 2 (.pointer (some ⟨ab, 6, none⟩)) (some 43) (by kernel_rfl) (by kernel_rfl) (by kernel_rfl) ?_
  refine lin_cell 3 4 (.tmp 43) (.const (.bool true)) ab 6 113 _ (.bool true) (by kernel_rfl) (by kernel_rfl) (by kernel_rfl) (by kernel_rfl) (by kernel_rfl) X3.out.hb (by simp [acells]) (by kernel_rfl) rfl rfl ?_
  intro w4 b4 u4 hs4
  refine lin_done 4 (by kernel_rfl) ?_
  have X4 : Hid (Arx w4 (E ++ F3) ab d first half gen next rv true recs) := X3.out.upd u4 b4
  have D4 : Hid (Dk w4 F3 d sz (putsK seen (first + next) (packF gen next rec) dn) dur (pend ++ wrsAt (first + next) (packF gen next rec) dn) (leftK left dn)) := D3.out.step (Step.of_upd (F := [ab]) u4 (by simp)) (fun k hk => by have := X3.out.n2 ab (by simp [afoot]); intro hc; obtain rfl : k = ab := (by simpa using hc); exact this (List.mem_append_right _ hk))
  have S4 : Hid (Step (afoot ab rv ++ F) w (afoot ab rv ++ F3) w4) := S3.out.trans (Step.of_upd u4 (by simp [afoot]))
  clear b4 u4 hs4 X3 D3 S3
  generalize hact : Act.put _ none undef = act
  simp only [Act.put, List.setIfInBounds_toArray, List.set_cons_succ, List.set_cons_zero] at hact
  subst hact
  go_wp2
  go_ret
  exact ⟨rfl, F3, ⟨rv, rfl, X4.out⟩, D4.out, S4.out⟩
set_option maxHeartbeats 4000000 in
theorem add_ok {w : World} {A F : List Nat} (E : List Nat) {ab d first half gen next : Nat} {recs : List (List Int)} (h : Ar w A (E ++ F) ab d first half gen next false recs) (hE : ∀ k ∈ E, k < w.heap.size) (u : Value) (rec : List Int) (hu : BytesOff (A ++ F) w u rec) (hnl : NilOk u) (hK : KW w) (hl : rec.length ≤ 2000) (hg1 : 1 ≤ gen) (hg2 : gen ≤ 4294967295) (hnh : next ≤ half) (hhm : half ≤ 4096) (hfit : needN rec.length ≤ half - next) (sz : Nat) (seen dur : List Int) (pend : List Wr) (left : Int) (hd : Dk w F d sz seen dur pend left) (hfh : first + half ≤ sz) (hlm : left ≤ 9223372036854775807) (hm : pend.length ≤ 900000) (hdone : doneN left (needN rec.length) = needN rec.length) (hrl : recs.length ≤ 900000) :
    Calls Tryd.prog 38 #[.pointer (some ⟨ab, 0, none⟩), u] w fun e w' => e = .returned (.int .i64 0) ∧ ∃ A' F', Ar w' A' (E ++ F') ab d first half gen (next + needN rec.length) false (recs ++ [rec]) ∧ Dk w' F' d sz (putsK seen (first + next) (packF gen next rec) (needN rec.length)) dur (pend ++ wrsAt (first + next) (packF gen next rec) (needN rec.length)) (leftK left (needN rec.length)) ∧ Step (A ++ F) w (A' ++ F') w' := by
  have HD := Lib.hid hd
  have hsz : sz ≤ 4096 := by obtain ⟨sB, dB, sc, dc, rs, rd, pv, -, hx⟩ := id hd; exact hx.big
  have HDN := Lib.hid hdone
  clear hd hdone
  obtain ⟨rv, hA, hx⟩ := h
  subst hA
  have HX := Lib.hid hx
  have HU := Lib.hid hu
  have HNI := Lib.hid hnl
  have HK := Lib.hid hK
  obtain ⟨ua, uc, rfl, -⟩ := id hu
  obtain ⟨n, hn⟩ : ∃ n, Hid (rec.length = n) := ⟨_, rfl⟩
  obtain ⟨kn, hkn⟩ : ∃ kn, Hid (needN n = kn) := ⟨_, rfl⟩
  rw [hn.out] at hl hfit HU HNI ⊢
  rw [hkn.out] at hfit
  try rw [hkn.out]
  have k1 : 1 ≤ kn := by have := needN_pos n; rw [hkn.out] at this; exact this
  have k45 : kn ≤ 45 := by have := needN_le n hl; rw [hkn.out] at this; exact this
  have OK : Hid (okPack (gen : Int) (next : Int) rec.length) := by unfold Hid; rw [hn.out]; exact ⟨hl, by omega, by omega, by omega, by rw [hkn.out]; omega⟩
  clear hx hu hnl hK
  go_enter Tryd.func38, Tryd.ntmps38
  go_upto_region 1 with (fail)
  refine region_begin (opsOf Tryd.f38 1) (fun w' => Blk w' ab 113 (acells d first half gen next rv false)) (by kernel_rfl) (by kernel_rfl) 15 (by kernel_rfl) ?_
  intro Q' hQN hN
  have hS : Blk w.drew ab 113 (acells d first half gen next rv false) := HX.out.hb
  refine reg_now 0 (.pointer (some ⟨ab, 0, none⟩)) (some 8) hQN hS (by kernel_rfl) (by kernel_rfl) (fun w => by kernel_rfl) ?_
  refine reg_now 1 (.pointer (some ⟨ab, 0, none⟩)) (some 9) hQN hS (by kernel_rfl) (by kernel_rfl) (fun w => by kernel_rfl) ?_
  refine reg_now 2 (.pointer (some ⟨ab, 3, none⟩)) (some 10) hQN hS (by kernel_rfl) (by kernel_rfl) (fun w => by kernel_rfl) ?_
  refine reg_nowIf 3 (.int .i64 (gen : Int)) (some 11) hQN hS (by kernel_rfl) (by kernel_rfl) (fun w' hw => exec_load_cell 3 (.tmp 10) (by kernel_rfl) ab 3 (by kernel_rfl) _ (hw.cell rfl) _ Tryd.underlying3 rfl) ?_
  refine reg_now 4 (.pointer (some ⟨ab, 0, none⟩)) (some 12) hQN hS (by kernel_rfl) (by kernel_rfl) (fun w => by kernel_rfl) ?_
  refine reg_now 5 (.pointer (some ⟨ab, 0, none⟩)) (some 13) hQN hS (by kernel_rfl) (by kernel_rfl) (fun w => by kernel_rfl) ?_
  refine reg_now 6 (.pointer (some ⟨ab, 4, none⟩)) (some 14) hQN hS (by kernel_rfl) (by kernel_rfl) (fun w => by kernel_rfl) ?_
  refine reg_nowIf 7 (.int .i64 (next : Int)) (some 15) hQN hS (by kernel_rfl) (by kernel_rfl) (fun w' hw => exec_load_cell 3 (.tmp 14) (by kernel_rfl) ab 4 (by kernel_rfl) _ (hw.cell rfl) _ Tryd.underlying3 rfl) ?_
  refine reg_now 8 (.slice ua n uc) (some 16) hQN hS (by kernel_rfl) (by kernel_rfl) (fun w => by kernel_rfl) ?_
  refine reg_call 9 68 #[.int .i64 (gen : Int), .int .i64 (next : Int), .slice ua n uc] (some 17) _ (by kernel_rfl) (by kernel_rfl) (by kernel_rfl) (pack_ok gen next _ rec _ (HU.out.in.drewN 1) HNI.out OK.out HK.out) ?_
  rintro e w1 ⟨G, rfl, hG, hblk, hb1⟩
  refine ⟨_, rfl, hS.below hb1 hS.lt, ?_⟩
  rw [hn.out, hkn.out]
  refine reg_now 10 (.tuple #[.slice (some ⟨G, 0, none⟩) kn kn, .bool true]) (some 7) hQN (hS.below hb1 hS.lt) (by kernel_rfl) (by kernel_rfl) (fun w => by kernel_rfl) ?_
  refine reg_now 11 (.slice (some ⟨G, 0, none⟩) kn kn) (some 18) hQN (hS.below hb1 hS.lt) (by kernel_rfl) (by kernel_rfl) (fun w => by kernel_rfl) ?_
  refine reg_now 12 (.bool true) (some 19) hQN (hS.below hb1 hS.lt) (by kernel_rfl) (by kernel_rfl) (fun w => by kernel_rfl) ?_
  refine reg_now 13 (.slice (some ⟨G, 0, none⟩) kn kn) (some 5) hQN (hS.below hb1 hS.lt) (by kernel_rfl) (by kernel_rfl) (fun w => by kernel_rfl) ?_
  refine reg_now 14 (.bool true) (some 6) hQN (hS.below hb1 hS.lt) (by kernel_rfl) (by kernel_rfl) (fun w => by kernel_rfl) ?_
  refine reg_done (by kernel_rfl) (hN _ _ ?_)
  have BE1 : Below w.heap.size w w1 := (Below.refl _ _).drew.trans hb1
  have X1 := Lib.hid (HX.out.below BE1)
  have B1 := Lib.hid BE1
  have D1 := Lib.hid (HD.out.below BE1)
  have GB : Hid (Blk w1 G 91 (ints .u8 (packF gen next rec))) := hblk
  have GF : Hid (G ∉ F) := fun hc => by have := HD.out.lt G hc; have h2 : w.heap.size ≤ G := hG; omega
  have U1 : Hid (BytesOff (afoot ab rv ++ F) w1 (.slice ua n uc) rec) := HU.out.step (Step.of_below BE1 (Nat.le_refl _))
  clear hQN hN hS BE1 hblk hb1 hG HX HU HK OK HD
  generalize hact : Act.put _ (some 6) _ = act
  simp only [Act.put, List.setIfInBounds_toArray, List.set_cons_succ, List.set_cons_zero] at hact
  subst hact
  go_upto_region 4 with (fail)
  refine lin_begin (opsOf Tryd.f38 4) (by kernel_rfl) ?_
  refine lin_now 0 (.pointer (some ⟨ab, 0, none⟩)) (some 22) (by kernel_rfl) (by kernel_rfl) (by kernel_rfl) ?_
  refine lin_now 1 (.pointer (some ⟨ab, 0, none⟩)) (some 23) (by kernel_rfl) (by kernel_rfl) (by kernel_rfl) ?_
  refine lin_now 2 (.pointer (some ⟨ab, 6, none⟩)) (some 24) (by kernel_rfl) (by kernel_rfl) (by kernel_rfl) ?_
  refine lin_now 3 (.bool false) (some 25) (by kernel_rfl) (by kernel_rfl) (exec_load_cell 4 (.tmp 24) (by kernel_rfl) ab 6 (by kernel_rfl) _ X1.out.c6 _ Tryd.underlying4 rfl) ?_
  refine lin_now 4 (.bool false) (some 26) (by kernel_rfl) (by kernel_rfl) (by kernel_rfl) ?_
  refine lin_now 5 (.slice (some ⟨G, 0, none⟩) kn kn) (some 27) (by kernel_rfl) (by kernel_rfl) (by kernel_rfl) ?_
  refine lin_now 6 (.int .i64 (kn : Int)) (some 28) (by kernel_rfl) (by kernel_rfl) (by kernel_rfl) ?_
  refine lin_now 7 (.pointer (some ⟨ab, 0, none⟩)) (some 29) (by kernel_rfl) (by kernel_rfl) (by kernel_rfl) ?_
  refine lin_call 8 62 #[.pointer (some ⟨ab, 0, none⟩)] (some 30) _ (by kernel_rfl) (by kernel_rfl) (by kernel_rfl) (arfree_walk ⟨rv, rfl, X1.out⟩ hnh hhm) ?_
  rintro e w2 ⟨rfl, nd, rfl⟩
  refine ⟨_, rfl, ?_⟩
  have q0 : decide (((half - next : Nat) : Int) < (kn : Int)) = false := by rw [decide_eq_false_iff_not]; omega
  refine lin_now 9 (.bool (decide (((half - next : Nat) : Int) < (kn : Int)))) (some 31) (by kernel_rfl) (by kernel_rfl) (by kernel_rfl) ?_
  rw [q0]
  refine lin_now 10 (.bool false) (some 32) (by kernel_rfl) (by kernel_rfl) (by kernel_rfl) ?_
  refine lin_done 11 (by kernel_rfl) ?_
  have BD := below_drewN w1 nd
  have X2 := Lib.hid (X1.out.below BD)
  have D2 := Lib.hid (D1.out.below BD)
  have GB2 := Lib.hid (GB.out.below BD GB.out.lt)
  have B2 : Hid (Below w.heap.size w (w1.drewN nd)) := B1.out.trans (BD.mono B1.out.size)
  have U2 : Hid (BytesOff (afoot ab rv ++ F) (w1.drewN nd) (.slice ua n uc) rec) := U1.out.step (Step.of_below BD (Nat.le_refl _))
  generalize w1.drewN nd = W2 at *
  clear BD X1 D1 GB B1 U1
  generalize hact : Act.put _ (some 32) _ = act
  simp only [Act.put, List.setIfInBounds_toArray, List.set_cons_succ, List.set_cons_zero] at hact
  subst hact
  go_upto_region 6 with (fail)
  refine lin_begin (opsOf Tryd.f38 6) (by kernel_rfl) ?_
  refine lin_now 0 (.pointer (some ⟨ab, 0, none⟩)) (some 33) (by kernel_rfl) (by kernel_rfl) (by kernel_rfl) ?_
  refine lin_now 1 (.pointer (some ⟨ab, 0, none⟩)) (some 34) (by kernel_rfl) (by kernel_rfl) (by kernel_rfl) ?_
  refine lin_now 2 (.pointer (some ⟨ab, 0, none⟩)) (some 35) (by kernel_rfl) (by kernel_rfl) (by kernel_rfl) ?_
  refine lin_now 3 (.pointer (some ⟨ab, 4, none⟩)) (some 36) (by kernel_rfl) (by kernel_rfl) (by kernel_rfl) ?_
  refine lin_now 4 (.int .i64 (next : Int)) (some 37) (by kernel_rfl) (by kernel_rfl) (exec_load_cell 3 (.tmp 36) (by kernel_rfl) ab 4 (by kernel_rfl) _ X2.out.c4 _ Tryd.underlying3 rfl) ?_
  refine lin_now 5 (.slice (some ⟨G, 0, none⟩) kn kn) (some 38) (by kernel_rfl) (by kernel_rfl) (by kernel_rfl) ?_
  refine lin_call 6 69 #[.pointer (some ⟨ab, 0, none⟩), .int .i64 (next : Int), .slice (some ⟨G, 0, none⟩) kn kn] (some 39) _ (by kernel_rfl) (by kernel_rfl) (by kernel_rfl) (arwrite_walk E ⟨rv, rfl, X2.out⟩ sz seen dur pend left D2.out next G kn kn (packF gen next rec) GB2.out GF.out (by rw [packF_length, hn.out, hkn.out]) (by omega) hsz hlm (by omega)) ?_
  rintro e w3 ⟨rfl, F3, hd3, hs3⟩
  refine ⟨_, rfl, ?_⟩
  rw [hn.out, hkn.out] at HDN
  rw [HDN.out, decide_eq_true rfl]
  rw [HDN.out] at hd3
  refine lin_now 7 (.bool false) (some 40) (by kernel_rfl) (by kernel_rfl) (by kernel_rfl) ?_
  refine lin_done 8 (by kernel_rfl) ?_
  have X3 := Lib.hid (X2.out.disk (hs3.left (A := E)))
  have D3 := Lib.hid hd3
  have S3 : Hid (Step (afoot ab rv ++ F) w (afoot ab rv ++ F3) w3) := (Step.of_below B2.out (Nat.le_refl _)).trans hs3.left
  have U3 : Hid (BytesOff (afoot ab rv ++ F3) w3 (.slice ua n uc) rec) := U2.out.step hs3.left
  clear hd3 hs3 X2 D2 GB2 U2 B2
  generalize hact : Act.put _ (some 40) _ = act
  simp only [Act.put, List.setIfInBounds_toArray, List.set_cons_succ, List.set_cons_zero] at hact
  subst hact
  go_upto_region 9 with (fail)
  refine lin_begin (opsOf Tryd.f38 9) (by kernel_rfl) ?_
  refine lin_now 0 (.pointer (some ⟨ab, 0, none⟩)) (some 44) (by kernel_rfl) (by kernel_rfl) (by kernel_rfl) ?_
  refine lin_now 1 (.pointer (some ⟨ab, 0, none⟩)) (some 45) (by kernel_rfl) (by kernel_rfl) (by kernel_rfl) ?_
  refine lin_now 2 (.pointer (some ⟨ab, 4, none⟩)) (some 46) (by kernel_rfl) (by kernel_rfl) (by kernel_rfl) ?_
  refine lin_now 3 (.int .i64 (next : Int)) (some 47) (by kernel_rfl) (by kernel_rfl) (exec_load_cell 3 (.tmp 46) (by kernel_rfl) ab 4 (by kernel_rfl) _ X3.out.c4 _ Tryd.underlying3 rfl) ?_
  refine lin_now 4 (.slice (some ⟨G, 0, none⟩) kn kn) (some 48) (by kernel_rfl) (by kernel_rfl) (by kernel_rfl) ?_
  refine lin_now 5 (.int .i64 (kn : Int)) (some 49) (by kernel_rfl) (by kernel_rfl) (by kernel_rfl) ?_
  refine lin_now 6 (.int .i64 (IntKind.i64.wrap ((next : Int) + (kn : Int)))) (some 50) (by kernel_rfl) (by kernel_rfl) (by kernel_rfl) ?_
  rw [show IntKind.i64.wrap ((next : Int) + (kn : Int)) = ((next + kn : Nat) : Int) from (IntWalk.i64_in _ (by omega)).trans (by omega)]
  refine lin_now 7 (.pointer (some ⟨ab, 0, none⟩)) (some 51) (by kernel_rfl) (by kernel_rfl) (by kernel_rfl) ?_
  refine lin_now 8 (.pointer (some ⟨ab, 4, none⟩)) (some 52) (by kernel_rfl) (by kernel_rfl) (by kernel_rfl) ?_
  refine lin_cell 9 3 (.tmp 52) (.tmp 50) ab 4 113 _ (.int .i64 ((next + kn : Nat) : Int)) (by kernel_rfl) (by kernel_rfl) (by kernel_rfl) (by kernel_rfl) (by kernel_rfl) X3.out.hb (by simp [acells]) (by kernel_rfl) rfl rfl ?_
  intro w4 b4 u4 hs4
  refine lin_done 10 (by kernel_rfl) ?_
  have X4 : Hid (Arx w4 (E ++ F3) ab d first half gen (next + kn) rv false recs) := X3.out.upd u4 b4
  have D4 : Hid (Dk w4 F3 d sz (putsK seen (first + next) (packF gen next rec) kn) dur (pend ++ wrsAt (first + next) (packF gen next rec) kn) (leftK left kn)) := D3.out.step (Step.of_upd (F := [ab]) u4 (by simp)) (fun k hk => by have := X3.out.n2 ab (by simp [afoot]); intro hc; obtain rfl : k = ab := (by simpa using hc); exact this (List.mem_append_right _ hk))
  have S4 : Hid (Step (afoot ab rv ++ F) w (afoot ab rv ++ F3) w4) := S3.out.trans (Step.of_upd u4 (by simp [afoot]))
  have U4 : Hid (BytesOff (afoot ab rv ++ F3) w4 (.slice ua n uc) rec) := U3.out.step (Step.of_upd u4 (by simp [afoot]))
  clear b4 u4 hs4 X3 D3 S3 U3
  generalize hact : Act.put _ none undef = act
  simp only [Act.put, List.setIfInBounds_toArray, List.set_cons_succ, List.set_cons_zero] at hact
  subst hact
  obtain ⟨vs, hown, hvb⟩ := X4.out.hr
  have OW := Lib.hid hown
  have VB := Lib.hid hvb
  obtain ⟨i0, hi0, hz0, hz1, hz2⟩ := info_parts infoBytes3
  have HI := Lib.hid hi0
  have HZ0 := Lib.hid hz0
  have HZ1 := Lib.hid hz1
  have HZ2 := Lib.hid hz2
  obtain ⟨m, hm2⟩ : ∃ m, Hid (recs.length = m) := ⟨_, rfl⟩
  rw [hm2.out] at OW hrl
  clear hown hvb hi0 hz0 hz1 hz2
  go_upto_region 10 with (fail)
  refine region_begin (opsOf Tryd.f38 10) (fun _ => True) (by kernel_rfl) (by kernel_rfl) 12 (by kernel_rfl) ?_
  intro Q' hQN hN
  obtain ⟨W4, hW4⟩ : ∃ W4, Hid (w4.drew = W4) := ⟨_, rfl⟩
  rw [hW4.out]
  have B4 : Below w4.heap.size w4 W4 := by rw [← hW4.out]; exact (Below.refl _ _).drew
  have H4 : W4.heap.size = w4.heap.size := by rw [← hW4.out]; rfl
  have hS : Blk W4 ab 113 (acells d first half gen (next + kn) rv false) := X4.out.hb.below B4 X4.out.hb.lt
  have U5 : BytesIn W4 (.slice ua n uc) rec := U4.out.in.below B4 (Nat.le_refl _)
  have ABL := hS.lt
  refine reg_now 0 (.pointer (some ⟨ab, 0, none⟩)) (some 53) hQN trivial (by kernel_rfl) (by kernel_rfl) (fun w => by kernel_rfl) ?_
  refine reg_now 1 (.pointer (some ⟨ab, 0, none⟩)) (some 54) hQN trivial (by kernel_rfl) (by kernel_rfl) (fun w => by kernel_rfl) ?_
  refine reg_now 2 (.pointer (some ⟨ab, 0, none⟩)) (some 55) hQN trivial (by kernel_rfl) (by kernel_rfl) (fun w => by kernel_rfl) ?_
  refine reg_now 3 (.pointer (some ⟨ab, 5, none⟩)) (some 56) hQN trivial (by kernel_rfl) (by kernel_rfl) (fun w => by kernel_rfl) ?_
  refine reg_now 5 (.slice ua n uc) (some 58) hQN trivial (by kernel_rfl) (by kernel_rfl) (fun w => by kernel_rfl) ?_
  refine reg_lcr 4 6 7 rv 57 59 60 61 #[.slice ua n uc] _ (by kernel_rfl) (by kernel_rfl) (by kernel_rfl) (by kernel_rfl) (by decide) (by decide) (by decide) (by decide)
    (exec_load_cell 75 (.tmp 56) (by kernel_rfl) ab 5 (by kernel_rfl) _ (hS.cell rfl) _ Tryd.underlying75 rfl) (fun vj w1 hb => exec_load_cell 75 (.tmp 56) (by kernel_rfl) ab 5 (by kernel_rfl) _ ((hS.below hb ABL).cell rfl) _ Tryd.underlying75 rfl) (fun vj vk w1 hb => exec_load_cell 75 (.tmp 56) (by kernel_rfl) ab 5 (by kernel_rfl) _ ((hS.below hb ABL).cell rfl) _ Tryd.underlying75 rfl)
    (by kernel_rfl) (by kernel_rfl) (cloneb_walk _ rec _ U5 HNI.out (by rw [hn.out]; omega)) ?_
  rintro e w5 ⟨cv, rfl, ho5, hb5⟩
  refine ⟨hb5, cv, rfl, ?_⟩
  have hS5 := hS.below hb5 ABL
  have B5 : Below w4.heap.size w4 w5 := B4.trans (by rw [← H4]; exact hb5)
  obtain ⟨ca, cc, ecv, -⟩ := owns_bytes ho5
  obtain ⟨cn, hcn⟩ : ∃ cn, Hid (rec.length = cn) := ⟨_, rfl⟩
  rw [hcn.out] at ecv
  obtain ⟨Q5, hQ5⟩ : ∃ Q, Hid (w5.heap.size = Q) := ⟨_, rfl⟩
  subst ecv
  have hrow := run_build_row ca cn cc w5
  have b6 : Blk (w5.alloc (.cells [.slice ca cn cc].toArray 22)) w5.heap.size 22 [.slice ca cn cc] := Blk.new _ _ _
  have be6 : Below w5.heap.size w5 (w5.alloc (.cells [.slice ca cn cc].toArray 22)) := (Below.refl _ _).alloc (Nat.le_refl _) _
  generalize w5.alloc (.cells [.slice ca cn cc].toArray 22) = w6 at hrow b6 be6
  rw [hQ5.out] at hrow b6
  refine ⟨.slice (some ⟨Q5, 0, none⟩) 1 1, w6, hb5.trans (be6.mono hb5.size), exec_of (Instr.buildSlice 75 1 #[(0, .slice ca cn cc)]) _ (by kernel_rfl) hrow, exec_of (Instr.buildSlice 75 1 #[(0, .slice ca cn cc)]) _ (by kernel_rfl) hrow, ?_⟩
  have hS6 := hS5.below be6 hS5.lt
  have B6 : Below w4.heap.size w4 w6 := B5.trans (be6.mono B5.size)
  have OW6 : w6.ownsRow 0 22 1 rv m vs := own_step OW.out (Step.of_below (F := []) B6 (Nat.le_refl _)) (fun g _ => by simp)
  obtain ⟨g, cap, W7, hr7, ho7, hg7, hat7, hlt7⟩ := run_append_lies (P := Tryd.prog) w6 75 75 0 22 i0 _ 1 24 Tryd.underlying75 HI.out HZ0.out HZ1.out HZ2.out rfl (by decide) rv m vs OW6 ⟨Q5, 0, none⟩ 1 1 [.slice ca cn cc] rfl (fun j u hj => by rw [Addr.add_mid]; exact b6.whole j u hj) (fun u hu => by obtain rfl : u = .slice ca cn cc := (by simpa using hu); rfl) (by omega) (by unfold maxLen; omega) (by omega) (Nat.zero_le _) _ rfl
  have hrne : ∀ g, rv.ownBlock = some g → g ≠ ab := X4.out.n1
  have hS7 : Blk W7 ab 113 (acells d first half gen (next + kn) rv false) := by unfold Blk; rw [hg7.block ab hS6.lt (fun e => hrne ab e.symm rfl)]; exact hS6
  refine reg_value 8 (.slice (some ⟨g, 0, none⟩) (m + 1) cap) (some 61) W7 (by kernel_rfl) (by kernel_rfl) (exec_of (Builtin.append_ #[75, 75] 75 #[rv, .slice (some ⟨Q5, 0, none⟩) 1 1]) _ (by kernel_rfl) hr7) trivial ?_
  refine reg_now 9 (.pointer (some ⟨ab, 0, none⟩)) (some 62) hQN trivial (by kernel_rfl) (by kernel_rfl) (fun w => by kernel_rfl) ?_
  refine reg_now 10 (.pointer (some ⟨ab, 5, none⟩)) (some 63) hQN trivial (by kernel_rfl) (by kernel_rfl) (fun w => by kernel_rfl) ?_
  have b8 : Blk (W7.setCell ⟨ab, 5, none⟩ (.slice (some ⟨g, 0, none⟩) (m + 1) cap)) ab 113 (acells d first half gen (next + kn) (.slice (some ⟨g, 0, none⟩) (m + 1) cap) false) := hS7.set 5 _
  have hfin : Blk (W7.setCell ⟨ab, 5, none⟩ (.slice (some ⟨g, 0, none⟩) (m + 1) cap)) ab 113 (acells d first half gen (next + kn) (.slice (some ⟨g, 0, none⟩) (m + 1) cap) false) := b8
  refine reg_store 11 (W7.setCell ⟨ab, 5, none⟩ (.slice (some ⟨g, 0, none⟩) (m + 1) cap)) (by kernel_rfl) (by kernel_rfl) (exec_store_cell 75 (.tmp 63) (.tmp 61) (by kernel_rfl) ab 5 _ (by kernel_rfl) (by kernel_rfl) _ _ hS7 (by simp [acells]) (by kernel_rfl) rfl rfl) trivial ?_
  refine reg_done (by kernel_rfl) (hN _ _ ?_)
  obtain ⟨XA, -, SA⟩ := X4.out.added (fun k hk => by rcases List.mem_append.1 hk with h | h; exact Nat.lt_of_lt_of_le (hE k h) S4.out.size; exact D4.out.lt k h) (by rw [hm2.out]; exact OW.out) VB.out B6 (cv := .slice ca cn cc) (rec := rec) (fun G hG => (owns_off (w := W4) (w' := w5) (F := G.filter (· < w4.heap.size)) ho5 (fun k hk => by rw [H4]; simpa using (List.mem_filter.1 hk).2) |>.step (Step.of_below be6 (Nat.le_refl _))).more (fun k hk => by rcases hG k hk with h | h; exact .inl (List.mem_filter.2 ⟨hk, by simpa using h⟩); exact .inr h)) (owns_nilok ho5) (by rw [hn.out]; exact hl) (by rw [hm2.out]; exact ho7) hg7 hat7 ((Upd.refl ab W7).setCell 5 _) (by rw [hm2.out]; exact hfin)
  rw [hm2.out] at XA SA
  have X8 := Lib.hid XA
  have S8 := Lib.hid (S4.out.trans (SA.right (F := F3)))
  have hgF : ∀ k ∈ F3, k ∉ (ab :: rv.ownBlock.toList) := fun k hk hc => X4.out.n2 k hc (List.mem_append_right _ hk)
  have D8 : Hid (Dk (W7.setCell ⟨ab, 5, none⟩ (.slice (some ⟨g, 0, none⟩) (m + 1) cap)) F3 d sz (putsK seen (first + next) (packF gen next rec) kn) dur (pend ++ wrsAt (first + next) (packF gen next rec) kn) (leftK left kn)) := D4.out.step (G := ab :: rv.ownBlock.toList) (G' := []) ⟨hg7.os.trans B6.os, hg7.tape.trans B6.tape, hg7.output.trans B6.output, by have := hg7.size; have := B6.size; simp [World.setCell]; omega, fun k hk hkF => by rw [heap_setCell_other W7 ⟨ab, 5, none⟩ k _ (fun e => hkF (by simp [e])), hg7.block k (Nat.lt_of_lt_of_le hk B6.size) (fun e => hkF (by simp [← e])), B6.block k hk], fun k hk => by simp at hk⟩ hgF
  generalize W7.setCell ⟨ab, 5, none⟩ (.slice (some ⟨g, 0, none⟩) (m + 1) cap) = W8 at *
  clear hQN hN hS hS5 hS6 hS7 b8 hfin XA SA hg7 hr7 ho7 hat7 hlt7 OW6 B6 B5 b6 be6 ho5 hb5 hgF hrow U5 B4 ABL H4 X4 D4 S4 U4 OW VB
  generalize hact : Act.put _ none undef = act
  simp only [Act.put, List.setIfInBounds_toArray, List.set_cons_succ, List.set_cons_zero] at hact
  subst hact
  go_wp2
  go_ret
  exact ⟨rfl, _, F3, ⟨_, rfl, X8.out⟩, D8.out, S8.out⟩
end Go.Proofs.YtngpmilojfbpmaaDoor
