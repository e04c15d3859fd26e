/- Areas in memory: rows of bytes off some blocks, and steps that change just some blocks. -/
import Derived.Test.YtngpmilojfbpmaaDoorSealN
import Derived.Test.YtngpmilojfbpmaaDoorDskFh
import Derived.Test.YtngpmilojfbpmaaDoorSealRw
import Derived.Deep.AppendLies
namespace Go.Proofs.YtngpmilojfbpmaaDoor
open Go Go.RowKit
set_option maxRecDepth 100000

theorem Step.left {A F F' : List Nat} {w w' : World} (h : Step F w F' w') : Step (A ++ F) w (A ++ F') w' :=
  ⟨h.os, h.tape, h.output, h.size, fun k hk hF => h.block k hk (fun e => hF (List.mem_append_right _ e)), fun k hk => by
    rcases List.mem_append.1 hk with h1 | h1
    · exact .inl (List.mem_append_left _ h1)
    · rcases h.fresh k h1 with h2 | h2
      · exact .inl (List.mem_append_right _ h2)
      · exact .inr h2⟩
/-- A step that changes some of the blocks G. -/
theorem Step.up {F F' G : List Nat} {w w' : World} (h : Step F w F' w') (hG : ∀ k ∈ F, k ∈ G) : Step G w F' w' :=
  ⟨h.os, h.tape, h.output, h.size, fun k hk hF => h.block k hk (fun e => hF (hG k e)), fun k hk => by
    rcases h.fresh k hk with h1 | h1
    · exact .inl (hG k h1)
    · exact .inr h1⟩
theorem Step.ge {F F' : List Nat} {w w' : World} {B : Nat} (h : Step F w F' w') (hF : ∀ k ∈ F, B ≤ k) (hB : B ≤ w.heap.size) : ∀ k ∈ F', B ≤ k := fun k hk => by
  rcases h.fresh k hk with h1 | h1
  · exact hF k h1
  · omega
theorem Step.blow {F F' : List Nat} {u w w' : World} {B : Nat} (h : Step F w F' w') (hF : ∀ k ∈ F, B ≤ k) (hB : B ≤ w.heap.size) (hb : Below B u w) : Below B u w' :=
  hb.trans ⟨h.os, h.tape, h.output, h.size, fun k hk => h.block k (by omega) (fun e => by have := hF k e; omega)⟩
theorem BytesOff.sub {F G : List Nat} {w : World} {v : Value} {zs : List Int} (h : BytesOff F w v zs) (hs : ∀ k ∈ G, k ∈ F) : BytesOff G w v zs := by
  obtain ⟨a, cap, h1, h2, h3⟩ := h
  refine ⟨a, cap, h1, h2, fun hp => ?_⟩
  obtain ⟨pb, po, h4, h5, h6⟩ := h3 hp
  exact ⟨pb, po, h4, fun e => h5 (hs pb e), h6⟩
theorem BytesOff.more {F G : List Nat} {w : World} {v : Value} {zs : List Int} (h : BytesOff F w v zs) (hs : ∀ k ∈ G, k ∈ F ∨ w.heap.size ≤ k) : BytesOff G w v zs := by
  obtain ⟨a, cap, h1, h2, h3⟩ := h
  refine ⟨a, cap, h1, h2, fun hp => ?_⟩
  obtain ⟨pb, po, h4, h5, h6, h7⟩ := h3 hp
  exact ⟨pb, po, h4, fun e => by rcases hs pb e with h | h; exact h5 h; omega, h6, h7⟩
/-- Slices of bytes, all of it off the blocks F. -/
def PartsOff (F : List Nat) (w : World) (v : Value) (zss : List (List Int)) : Prop :=
  ∃ (a : Option Addr) (cap : Nat) (ps : List Value), v = .slice a zss.length cap ∧ ps.length = zss.length ∧ zss.length ≤ 140737488351232 ∧ (0 < zss.length → ∃ qb qo, a = some ⟨qb, qo, none⟩ ∧ qb ∉ F ∧ qb < w.heap.size ∧ w.rangeAt qb qo ps) ∧
    ∀ (k : Nat) (v : Value) (zs : List Int), ps[k]? = some v → zss[k]? = some zs → BytesOff F w v zs ∧ NilOk v ∧ zs.length ≤ 140737488351232
theorem PartsOff.step {F F' : List Nat} {w w' : World} {v : Value} {zss : List (List Int)} (h : PartsOff F w v zss) (hs : Step F w F' w') : PartsOff F' w' v zss := by
  obtain ⟨a, cap, ps, h1, h2, h3, h4, h5⟩ := h
  refine ⟨a, cap, ps, h1, h2, h3, fun hp => ?_, fun k v zs hv hz => ?_⟩
  · obtain ⟨qb, qo, h6, h7, h8, h9⟩ := h4 hp
    exact ⟨qb, qo, h6, hs.off h8 h7, Nat.lt_of_lt_of_le h8 hs.size, fun j u hu => by
      rw [World.cell?_of_block (w := w) (a := ⟨qb, qo + j, none⟩) (hs.block qb h8 h7)]; exact h9 j u hu⟩
  · obtain ⟨h6, h7⟩ := h5 k v zs hv hz
    exact ⟨h6.step hs, h7⟩
theorem PartsOff.in {F : List Nat} {w : World} {v : Value} {zss : List (List Int)} (h : PartsOff F w v zss) : PartsIn w v zss := by
  obtain ⟨a, cap, ps, h1, h2, h3, h4, h5⟩ := h
  refine ⟨a, cap, ps, h1, h2, h3, fun hp => ?_, fun k v zs hv hz => ?_⟩
  · obtain ⟨qb, qo, h6, _, h8, h9⟩ := h4 hp
    exact ⟨qb, qo, h6, h8, h9⟩
  · obtain ⟨h6, h7⟩ := h5 k v zs hv hz
    exact ⟨h6.in, h7⟩
theorem PartsIn.off {F : List Nat} {w w' : World} {v : Value} {zss : List (List Int)} (h : PartsIn w v zss) (hb : Below w.heap.size w w') (hF : ∀ k ∈ F, w.heap.size ≤ k) : PartsOff F w' v zss := by
  obtain ⟨a, cap, ps, h1, h2, h3, h4, h5⟩ := h
  refine ⟨a, cap, ps, h1, h2, h3, fun hp => ?_, fun k v zs hv hz => ?_⟩
  · obtain ⟨qb, qo, h6, h8, h9⟩ := h4 hp
    exact ⟨qb, qo, h6, fun e => by have := hF qb e; omega, Nat.lt_of_lt_of_le h8 hb.size, fun j u hu => by rw [hb.cell (p := ⟨qb, qo + j, none⟩) h8]; exact h9 j u hu⟩
  · obtain ⟨h6, h7⟩ := h5 k v zs hv hz
    exact ⟨h6.off hb hF, h7⟩
theorem PartsOff.more {F G : List Nat} {w : World} {v : Value} {zss : List (List Int)} (h : PartsOff F w v zss) (hs : ∀ k ∈ G, k ∈ F ∨ w.heap.size ≤ k) : PartsOff G w v zss := by
  obtain ⟨a, cap, ps, h1, h2, h3, h4, h5⟩ := h
  refine ⟨a, cap, ps, h1, h2, h3, fun hp => ?_, fun k v zs hv hz => ?_⟩
  · obtain ⟨qb, qo, h6, h7, h8, h9⟩ := h4 hp
    exact ⟨qb, qo, h6, fun e => by rcases hs qb e with h | h; exact h7 h; omega, h8, h9⟩
  · obtain ⟨h6, h7⟩ := h5 k v zs hv hz
    exact ⟨h6.more hs, h7⟩
def rowAt (zss : List (List Int)) (k : Nat) : List Int := zss.getD k []
theorem rowAt_get {zss : List (List Int)} {k : Nat} (hk : k < zss.length) : zss[k]? = some (rowAt zss k) := by
  unfold rowAt; rw [List.getD_eq_getElem?_getD, List.getElem?_eq_getElem hk]; rfl
/-- A part, out of slices of them. -/
theorem PartsOff.part {F : List Nat} {w : World} {a : Option Addr} {n cap : Nat} {zss : List (List Int)} (h : PartsOff F w (.slice a n cap) zss) (hn : zss.length = n) {k : Nat} (hk : k < n) :
    ∃ qb qo pv, a = some ⟨qb, qo, none⟩ ∧ w.cell? ⟨qb, qo + k, none⟩ = some pv ∧ BytesOff F w pv (rowAt zss k) ∧ NilOk pv ∧ qb < w.heap.size := by
  obtain ⟨a', cap', ps, e, h2, h3, h4, h5⟩ := h
  obtain ⟨rfl, -, -⟩ := Value.slice.inj e
  obtain ⟨qb, qo, h6, _, h7, h8⟩ := h4 (by omega)
  obtain ⟨pv, hpv⟩ : ∃ v, ps[k]? = some v := ⟨_, List.getElem?_eq_getElem (by omega)⟩
  obtain ⟨h9, h10, _⟩ := h5 k pv _ hpv (rowAt_get (by omega))
  exact ⟨qb, qo, pv, h6, h8 k pv hpv, h9, h10, h7⟩
/-- A row of the call's own of slices of bytes; all bytes lie off the blocks F. -/
def Rws (F : List Nat) (w : World) (rv : Value) (zss : List (List Int)) : Prop :=
  ∃ vs, w.ownsRow 0 22 1 rv zss.length vs ∧ ∀ (i : Nat) (v : Value) (zs : List Int), vs[i]? = some v → zss[i]? = some zs → BytesOff F w v zs ∧ NilOk v
theorem Rws.step {F F' : List Nat} {w w' : World} {rv : Value} {zss : List (List Int)} (h : Rws F w rv zss) (hs : Step F w F' w') (hr : ∃ G G', Step G w G' w' ∧ ∀ g, rv.ownBlock = some g → g ∉ G) : Rws F' w' rv zss := by
  obtain ⟨vs, h1, h2⟩ := h
  obtain ⟨G, G', h3, h4⟩ := hr
  exact ⟨vs, own_step h1 h3 h4, fun i v zs hv hz => ⟨(h2 i v zs hv hz).1.step hs, (h2 i v zs hv hz).2⟩⟩
theorem Rws.slice {F : List Nat} {w : World} {rv : Value} {zss : List (List Int)} (h : Rws F w rv zss) : ∃ a c, rv = .slice a zss.length c := by
  obtain ⟨vs, ⟨_, h1⟩, _⟩ := h
  rcases h1 with ⟨rfl, h0⟩ | ⟨g, cap, cur, rfl, _⟩
  · exact ⟨none, 0, by rw [h0]⟩
  · exact ⟨_, cap, rfl⟩
theorem Rws.parts {F : List Nat} {w : World} {rv : Value} {zss : List (List Int)} (h : Rws F w rv zss) (hl : ∀ zs ∈ zss, zs.length ≤ 1000000) (hn : zss.length ≤ 1000000) {G : List Nat} (hG : ∀ k ∈ G, k ∈ F) (hr : ∀ g, rv.ownBlock = some g → g ∉ G) : PartsOff G w rv zss := by
  obtain ⟨vs, ⟨h1, h2⟩, h3⟩ := h
  have hb : ∀ (k : Nat) (v : Value) (zs : List Int), vs[k]? = some v → zss[k]? = some zs → BytesOff G w v zs ∧ NilOk v ∧ zs.length ≤ 140737488351232 := fun k v zs hv hz => by
    obtain ⟨h4, h5⟩ := h3 k v zs hv hz
    have := hl zs (List.mem_of_getElem? hz)
    exact ⟨h4.sub hG, h5, by omega⟩
  rcases h2 with ⟨rfl, h0⟩ | ⟨g, cap, cur, rfl, _, hg, hc, hm, hs, ht⟩
  · exact ⟨none, 0, vs, by rw [h0], by omega, by omega, fun h => by omega, hb⟩
  · refine ⟨some ⟨g, 0, none⟩, cap, vs, rfl, by omega, by omega, fun _ => ⟨g, 0, rfl, hr g rfl, (Array.getElem?_eq_some_iff.1 hg).1, fun j v hv => ?_⟩, hb⟩
    rw [cell_of_row w g (0 + j) cur 22 (0, 0) hg, Nat.zero_add]
    rw [← ht, List.getElem?_take] at hv
    split at hv
    · simpa using hv
    · cases hv
/-- The cells of an area. -/
def acells (d first half gen next : Nat) (rv : Value) (stuck : Bool) : List Value :=
  [.pointer (some ⟨d, 0, none⟩), .int .i64 (first : Int), .int .i64 (half : Int), .int .i64 (gen : Int), .int .i64 (next : Int), rv, .bool stuck]
def afoot (ab : Nat) (rv : Value) : List Nat := ab :: rv.ownBlock.toList
structure Arx (w : World) (F : List Nat) (ab d first half gen next : Nat) (rv : Value) (stuck : Bool) (recs : List (List Int)) : Prop where
  hb : Blk w ab 113 (acells d first half gen next rv stuck)
  hr : Rws (afoot ab rv ++ F) w rv recs
  n1 : ∀ g, rv.ownBlock = some g → g ≠ ab
  n2 : ∀ k ∈ afoot ab rv, k ∉ F
  short : ∀ zs ∈ recs, zs.length ≤ 2000
/-- At ab lies an area of the disk at d: its own blocks are A, the disk's F. -/
def Ar (w : World) (A F : List Nat) (ab d first half gen next : Nat) (stuck : Bool) (recs : List (List Int)) : Prop :=
  ∃ rv, A = afoot ab rv ∧ Arx w F ab d first half gen next rv stuck recs
section
variable {w w' : World} {A F F' : List Nat} {ab d first half gen next : Nat} {rv : Value} {stuck : Bool} {recs : List (List Int)}
theorem Arx.rlt (h : Arx w F ab d first half gen next rv stuck recs) : ∀ k ∈ afoot ab rv, k < w.heap.size := fun k hk => by
  simp only [afoot, List.mem_cons, Option.mem_toList] at hk
  rcases hk with rfl | hk
  · exact h.hb.lt
  · obtain ⟨vs, h1, _⟩ := h.hr
    exact (h1.lt k hk).2
theorem Ar.lt (h : Ar w A F ab d first half gen next stuck recs) : ∀ k ∈ A, k < w.heap.size := by
  obtain ⟨rv, rfl, h⟩ := h
  exact h.rlt
/-- The disk has changed. -/
theorem Arx.disk (h : Arx w F ab d first half gen next rv stuck recs) (hs : Step F w F' w') : Arx w' F' ab d first half gen next rv stuck recs :=
  ⟨hs.blk h.hb (h.n2 ab (by simp [afoot])), h.hr.step hs.left ⟨F, F', hs, fun g hg => h.n2 g (by simp [afoot, hg])⟩, h.n1, fun k hk => hs.off (h.rlt k hk) (h.n2 k hk), h.short⟩
theorem Ar.disk (h : Ar w A F ab d first half gen next stuck recs) (hs : Step F w F' w') : Ar w' A F' ab d first half gen next stuck recs := by
  obtain ⟨rv, rfl, h⟩ := h
  exact ⟨rv, rfl, h.disk hs⟩
theorem Arx.below (h : Arx w F ab d first half gen next rv stuck recs) (hb : Below w.heap.size w w') : Arx w' F ab d first half gen next rv stuck recs := h.disk (Step.of_below hb (Nat.le_refl _))
theorem Ar.below (h : Ar w A F ab d first half gen next stuck recs) (hb : Below w.heap.size w w') : Ar w' A F ab d first half gen next stuck recs := h.disk (Step.of_below hb (Nat.le_refl _))
theorem Arx.c0 (h : Arx w F ab d first half gen next rv stuck recs) : w.cell? ⟨ab, 0, none⟩ = some (.pointer (some ⟨d, 0, none⟩)) := h.hb.cell rfl
theorem Arx.c1 (h : Arx w F ab d first half gen next rv stuck recs) : w.cell? ⟨ab, 1, none⟩ = some (.int .i64 (first : Int)) := h.hb.cell rfl
theorem Arx.c2 (h : Arx w F ab d first half gen next rv stuck recs) : w.cell? ⟨ab, 2, none⟩ = some (.int .i64 (half : Int)) := h.hb.cell rfl
theorem Arx.c3 (h : Arx w F ab d first half gen next rv stuck recs) : w.cell? ⟨ab, 3, none⟩ = some (.int .i64 (gen : Int)) := h.hb.cell rfl
theorem Arx.c4 (h : Arx w F ab d first half gen next rv stuck recs) : w.cell? ⟨ab, 4, none⟩ = some (.int .i64 (next : Int)) := h.hb.cell rfl
theorem Arx.c5 (h : Arx w F ab d first half gen next rv stuck recs) : w.cell? ⟨ab, 5, none⟩ = some rv := h.hb.cell rfl
theorem Arx.c6 (h : Arx w F ab d first half gen next rv stuck recs) : w.cell? ⟨ab, 6, none⟩ = some (.bool stuck) := h.hb.cell rfl
theorem Arx.setNext (h : Arx w F ab d first half gen next rv stuck recs) (n : Nat) : Arx (w.setCell ⟨ab, 4, none⟩ (.int .i64 (n : Int))) F ab d first half gen n rv stuck recs := by
  have hs : Step [ab] w [ab] (w.setCell ⟨ab, 4, none⟩ (.int .i64 (n : Int))) := Step.of_upd ((Upd.refl ab w).setCell 4 _) (by simp)
  have hs2 : Step (afoot ab rv ++ F) w (afoot ab rv ++ F) (w.setCell ⟨ab, 4, none⟩ (.int .i64 (n : Int))) := Step.of_upd ((Upd.refl ab w).setCell 4 _) (by simp [afoot])
  exact ⟨h.hb.set 4 _, h.hr.step hs2 ⟨_, _, hs, fun g hg => by have := h.n1 g hg; simpa using this⟩, h.n1, h.n2, h.short⟩
theorem Arx.setStuck (h : Arx w F ab d first half gen next rv stuck recs) : Arx (w.setCell ⟨ab, 6, none⟩ (.bool true)) F ab d first half gen next rv true recs := by
  have hs : Step [ab] w [ab] (w.setCell ⟨ab, 6, none⟩ (.bool true)) := Step.of_upd ((Upd.refl ab w).setCell 6 _) (by simp)
  have hs2 : Step (afoot ab rv ++ F) w (afoot ab rv ++ F) (w.setCell ⟨ab, 6, none⟩ (.bool true)) := Step.of_upd ((Upd.refl ab w).setCell 6 _) (by simp [afoot])
  exact ⟨h.hb.set 6 _, h.hr.step hs2 ⟨_, _, hs, fun g hg => by have := h.n1 g hg; simpa using this⟩, h.n1, h.n2, h.short⟩
end
end Go.Proofs.YtngpmilojfbpmaaDoor
/- Package area: the small functions. -/
namespace Go.Proofs.YtngpmilojfbpmaaDoor
open Go Go.RowKit
set_option maxRecDepth 100000

section
variable {w : World} {A F : List Nat} {ab d first half gen next : Nat} {stuck : Bool} {recs : List (List Int)}
theorem arstuck_walk (h : Ar w A F ab d first half gen next stuck recs) : Calls Tryd.prog 40 #[.pointer (some ⟨ab, 0, none⟩)] w fun e w' => e = .returned (.bool stuck) ∧ w = w' := by
  obtain ⟨rv, -, hx⟩ := h
  have c := hx.c6
  clear hx
  go_enter Tryd.func40, Tryd.ntmps40
  go_wp2
  go_ret
  exact ⟨rfl, rfl⟩
theorem arfree_walk (h : Ar w A F ab d first half gen next stuck recs) (h1 : next ≤ half) (h2 : half ≤ 4096) : Calls Tryd.prog 62 #[.pointer (some ⟨ab, 0, none⟩)] w fun e w' => e = .returned (.int .i64 ((half - next : Nat) : Int)) ∧ ∃ n, w' = w.drewN n := by
  obtain ⟨rv, -, hx⟩ := h
  have c2 := hx.c2
  have c4 := hx.c4
  clear hx
  go_enter Tryd.func62, Tryd.ntmps62
  go_wp2
  go_quiet (fail)
  go_wp2
  go_ret
  refine ⟨?_, _, rfl⟩
  rw [show ((half - next : Nat) : Int) = (half : Int) - (next : Int) by omega]
  rfl
theorem arflush_walk {sz : Nat} {seen dur : List Int} {pend : List Wr} {left : Int} (h : Ar w A F ab d first half gen next stuck recs) (hd : Dk w F d sz seen dur pend left) (hm : pend.length ≤ 1000000) : Calls Tryd.prog 60 #[.pointer (some ⟨ab, 0, none⟩)] w (DkPost F d sz seen (applyK dur pend pend.length) [] left (.int .i64 0) w) := by
  obtain ⟨rv, -, hx⟩ := h
  have c0 := hx.c0
  have HD := Lib.hid hd
  clear hx hd
  go_enter Tryd.func60, Tryd.ntmps60
  go_wp2_with fail
  refine (flush_walk d sz F seen dur pend left _ HD.out hm).mono ?_
  rintro e w1 ⟨rfl, h1⟩
  have H1 := Lib.hid h1
  clear h1
  go_wp2
  go_ret
  exact ⟨rfl, H1.out⟩
end
theorem toolong_walk (a : Option Addr) (n c : Nat) (w : World) : Calls Tryd.prog 83 #[.slice a n c] w fun e w' => e = .returned (.bool (decide (2000 < n))) ∧ w = w' := by
  by_cases hn : 2000 < n
  · have hz := needI_no (n : Int) (.inr (by omega))
    rw [decide_eq_true hn]
    go_enter Tryd.func83, Tryd.ntmps83
    go_wp2_with fail
    refine (need_walk _ _).mono ?_
    rintro e w' ⟨rfl, rfl⟩
    rw [hz]
    go_wp2
    go_ret
    exact ⟨rfl, rfl⟩
  · have hz := needI_nat n (by omega)
    obtain ⟨k, hk⟩ : ∃ k, Hid (needN n = k) := ⟨_, rfl⟩
    have k1 : 1 ≤ k := by have := needN_pos n; rw [hk.out] at this; exact this
    rw [hk.out] at hz
    have q0 : ((k : Int) == 0) = false := by simpa using (show ¬ k = 0 by omega)
    rw [decide_eq_false hn]
    go_enter Tryd.func83, Tryd.ntmps83
    go_wp2_with fail
    refine (need_walk _ _).mono ?_
    rintro e w' ⟨rfl, rfl⟩
    rw [hz]
    go_wp2
    go_ret
    exact ⟨rfl, rfl⟩
theorem partsElem : Tryd.prog.underlying 75 = some (.slice (Tryd.prog.elem 75)) := by kernel_rfl
theorem run_at_part (B off n cap m : Nat) (hm : m < n) (w : World) : (Instr.indexAt 75 (.slice (some ⟨B, off, none⟩) n cap) (.int .i64 (m : Int))).run Tryd.prog w = .ok (.pointer (some ⟨B, off + m, none⟩)) w := by
  rw [run_indexAt_slice w 75 _ _ _ _ _ partsElem]
  have hz : (sizeOf (Tryd.prog.elem 75)).run Tryd.prog w = .ok 1 w := by kernel_rfl
  rw [if_pos (by omega), hz, Result.andThen_ok, Addr.add_mid, Int.toNat_natCast, Nat.mul_one]
/-- How many sectors the first k records need. -/
def cntK (zss : List (List Int)) : Nat → Nat
  | 0 => 0
  | k + 1 => cntK zss k + needN (rowAt zss k).length
theorem cntK_mono (zss : List (List Int)) {i j : Nat} (h : i ≤ j) : cntK zss i ≤ cntK zss j := by
  induction j with
  | zero => rw [show i = 0 by omega]; exact Nat.le_refl _
  | succ j ih =>
    by_cases e : i = j + 1
    · rw [e]; exact Nat.le_refl _
    · rw [cntK]; have := ih (by omega); omega
set_option maxHeartbeats 1000000 in
/-- need: of records none of which is too long. -/
theorem arneed_walk (v : Value) (zss : List (List Int)) (w : World) (hv : PartsOff [] w v zss) (hs : ∀ zs ∈ zss, zs.length ≤ 2000) (hl : zss.length ≤ 1000000) : Calls Tryd.prog 85 #[v] w fun e w' => e = .returned (.int .i64 ((cntK zss zss.length : Nat) : Int)) ∧ w = w' := by
  obtain ⟨a, cap, ps, rfl, -⟩ := id hv
  obtain ⟨n, hn⟩ : ∃ n, Hid (zss.length = n) := ⟨_, rfl⟩
  rw [hn.out] at hv hl ⊢
  have HV := Lib.hid hv
  have HS := Lib.hid hs
  have CK : Hid (∀ k, k ≤ n → cntK zss k ≤ 45 * k) := fun k => by
    induction k with
    | zero => exact fun _ => Nat.le_refl _
    | succ k ih =>
      intro hk
      have h1 := ih (by omega)
      have h2 := needN_le (rowAt zss k).length (HS.out _ (List.mem_of_getElem? (rowAt_get (by rw [hn.out]; omega))))
      rw [cntK]; omega
  clear hv hs
  go_enter Tryd.func85, Tryd.ntmps85
  go_wp2
  go_loopw [8, 3, 5] (fun iv sv _ wr => ∃ i : Nat, i ≤ n ∧ iv = .int .i64 (i : Int) ∧ sv = .int .i64 ((cntK zss i : Nat) : Int) ∧ w = wr) (fun iv _ _ _ => n - (intOf iv).toNat)
  case atStart => exact ⟨0, Nat.zero_le _, rfl, rfl, rfl⟩
  case round =>
    obtain ⟨i, hi, rfl, rfl, rfl⟩ := hrel
    by_cases hlt : i < n
    · have r1 : (i : Int) < (n : Int) := by omega
      obtain ⟨qb, qo, pv, rfl, hcell, hpb, hpn, hqb⟩ := HV.out.part hn.out hlt
      obtain ⟨rc, hrc⟩ : ∃ rc, Hid (rowAt zss i = rc) := ⟨_, rfl⟩
      rw [hrc.out] at hpb
      obtain ⟨pa, pc, e8, -⟩ := hpb
      subst e8
      have hm : rc.length ≤ 2000 := by rw [← hrc.out]; exact HS.out _ (List.mem_of_getElem? (rowAt_get (by rw [hn.out]; omega)))
      have hz := needI_nat rc.length hm
      obtain ⟨m, hm2⟩ : ∃ m, Hid (rc.length = m) := ⟨_, rfl⟩
      rw [hm2.out] at hz hcell
      have HZ := Lib.hid hz
      obtain ⟨k, hk⟩ : ∃ k, Hid (needN m = k) := ⟨_, rfl⟩
      rw [hk.out] at HZ
      obtain ⟨c, hc⟩ : ∃ c, Hid (cntK zss i = c) := ⟨_, rfl⟩
      have HN : Hid (cntK zss (i + 1) = c + k) := by unfold Hid; rw [cntK, hrc.out, hm2.out, hk.out, hc.out]
      have B1 := CK.out (i + 1) (by omega)
      rw [HN.out] at B1
      rw [hc.out]
      clear hpn hqb hz hm
      go_wp2_with fail
      refine (need_walk _ _).mono ?_
      rintro e w' ⟨rfl, rfl⟩
      rw [HZ.out]
      go_wp2
      exact ⟨⟨i + 1, by omega, by go_num, by rw [HN.out]; go_num, by trivial⟩, by simp [intOf]; omega⟩
    · have r1 : ¬ (i : Int) < (n : Int) := by omega
      obtain rfl : i = n := by omega
      go_wp2
      go_ret
      exact ⟨rfl, rfl⟩
end Go.Proofs.YtngpmilojfbpmaaDoor
/- Package area: which records are too long; Records. -/
namespace Go.Proofs.YtngpmilojfbpmaaDoor
open Go Go.RowKit
set_option maxRecDepth 100000

def tlV : Value := .func (.func 83) #[] #[]
set_option maxHeartbeats 1000000 in
theorem indexf_walk (v : Value) (zss : List (List Int)) (w : World) (hv : PartsOff [] w v zss) (hl : zss.length ≤ 1000000) : Calls Tryd.prog 99 #[v, tlV] w fun e w' => (∃ r : Int, e = .returned (.int .i64 r) ∧ -1 ≤ r ∧ r ≤ 1000000 ∧ (r < 0 ↔ ∀ zs ∈ zss, zs.length ≤ 2000)) ∧ w = w' := by
  obtain ⟨a, cap, ps, rfl, -⟩ := id hv
  obtain ⟨n, hn⟩ : ∃ n, Hid (zss.length = n) := ⟨_, rfl⟩
  rw [hn.out] at hv hl ⊢
  have HV := Lib.hid hv
  clear hv
  go_enter Tryd.func99, Tryd.ntmps99
  go_wp2
  go_loopw [8, 5] (fun iv _ wr => ∃ i : Nat, i ≤ n ∧ iv = .int .i64 (i : Int) ∧ Hid (∀ j, j < i → (rowAt zss j).length ≤ 2000) ∧ w = wr) (fun iv _ _ => n - (intOf iv).toNat)
  case atStart => exact ⟨0, Nat.zero_le _, rfl, fun j hj => absurd hj (by omega), rfl⟩
  case round =>
    obtain ⟨i, hi, rfl, hall, rfl⟩ := hrel
    by_cases hlt : i < n
    · have r1 : (i : Int) < (n : Int) := by omega
      obtain ⟨qb, qo, pv, rfl, hcell, hpb, hpn, hqb⟩ := HV.out.part hn.out hlt
      obtain ⟨rc, hrc⟩ : ∃ rc, Hid (rowAt zss i = rc) := ⟨_, rfl⟩
      rw [hrc.out] at hpb
      obtain ⟨pa, pc, e8, -⟩ := hpb
      subst e8
      obtain ⟨m, hm2⟩ : ∃ m, Hid (rc.length = m) := ⟨_, rfl⟩
      rw [hm2.out] at hcell
      have HC := Lib.hid hcell
      clear hpn hqb hcell
      go_upto_region 4 with (fail)
      refine lin_begin (opsOf Tryd.f99 4) (by kernel_rfl) ?_
      refine lin_now 0 tlV (some 11) (by kernel_rfl) (by kernel_rfl) (by kernel_rfl) ?_
      refine lin_now 1 (.slice (some ⟨qb, qo, none⟩) n cap) (some 12) (by kernel_rfl) (by kernel_rfl) (by kernel_rfl) ?_
      refine lin_now 2 (.int .i64 (i : Int)) (some 13) (by kernel_rfl) (by kernel_rfl) (by kernel_rfl) ?_
      refine lin_now 3 (.pointer (some ⟨qb, qo + i, none⟩)) (some 14) (by kernel_rfl) (by kernel_rfl) (exec_indexAt 75 (.tmp 12) (.tmp 13) (by kernel_rfl) _ _ _ (by kernel_rfl) (by kernel_rfl) (run_at_part qb qo n cap i hlt _)) ?_
      refine lin_now 4 (.slice pa m pc) (some 15) (by kernel_rfl) (by kernel_rfl) (exec_load_cell 22 (.tmp 14) (by kernel_rfl) qb (qo + i) (by kernel_rfl) _ HC.out _ Tryd.underlying22 rfl) ?_
      refine lin_call 5 83 #[.slice pa m pc] (some 16) _ (by kernel_rfl) (by kernel_rfl) (by kernel_rfl) (toolong_walk pa m pc _) ?_
      rintro e w' ⟨rfl, rfl⟩
      refine ⟨_, rfl, ?_⟩
      refine lin_done 6 (by kernel_rfl) ?_
      generalize hact : Act.put _ (some 16) _ = act
      simp only [Act.put, List.setIfInBounds_toArray, List.set_cons_succ, List.set_cons_zero] at hact
      subst hact
      by_cases hm : 2000 < m
      · rw [decide_eq_true hm]
        go_wp2
        go_ret
        refine ⟨⟨i, rfl, by omega, by omega, ⟨fun h => by omega, fun h => ?_⟩⟩, rfl⟩
        exfalso
        have h1 := h _ (List.mem_of_getElem? (rowAt_get (k := i) (by rw [hn.out]; omega)))
        rw [hrc.out, hm2.out] at h1
        omega
      · rw [decide_eq_false hm]
        go_wp2
        refine ⟨⟨i + 1, by omega, by go_num, fun j hj => ?_, by trivial⟩, by simp [intOf]; omega⟩
        by_cases e : j = i
        · subst e; rw [hrc.out, hm2.out]; omega
        · exact hall.out j (by omega)
    · have r1 : ¬ (i : Int) < (n : Int) := by omega
      obtain rfl : i = n := by omega
      go_wp2
      go_ret
      refine ⟨⟨-1, rfl, by omega, by omega, ⟨fun _ zs hz => ?_, fun _ => by omega⟩⟩, rfl⟩
      obtain ⟨j, hj, rfl⟩ := List.mem_iff_getElem.1 hz
      have h1 := hall.out j (by rw [← hn.out]; exact hj)
      unfold rowAt at h1
      rw [List.getD_eq_getElem?_getD, List.getElem?_eq_getElem hj] at h1
      exact h1
theorem contf_walk (v : Value) (zss : List (List Int)) (w : World) (hv : PartsOff [] w v zss) (hl : zss.length ≤ 1000000) : Calls Tryd.prog 82 #[v, tlV] w fun e w' => (∃ b : Bool, e = .returned (.bool b) ∧ (b = false ↔ ∀ zs ∈ zss, zs.length ≤ 2000)) ∧ w = w' := by
  have HV := Lib.hid hv
  obtain ⟨a, cap, ps, rfl, -⟩ := hv
  obtain ⟨n, hn⟩ : ∃ n, Hid (zss.length = n) := ⟨_, rfl⟩
  rw [hn.out] at HV ⊢
  go_enter Tryd.func82, Tryd.ntmps82
  go_upto_region 1 with (fail)
  refine lin_begin (opsOf Tryd.f82 1) (by kernel_rfl) ?_
  refine lin_now 0 (.slice a n cap) (some 5) (by kernel_rfl) (by kernel_rfl) (by kernel_rfl) ?_
  refine lin_now 1 tlV (some 6) (by kernel_rfl) (by kernel_rfl) (by kernel_rfl) ?_
  refine lin_call 2 99 #[.slice a n cap, tlV] (some 7) _ (by kernel_rfl) (by kernel_rfl) (by kernel_rfl) (indexf_walk _ zss _ HV.out hl) ?_
  rintro e w' ⟨⟨r, rfl, r1, r2, hr⟩, rfl⟩
  refine ⟨_, rfl, ?_⟩
  refine lin_now 3 (.bool (decide (0 ≤ r))) (some 8) (by kernel_rfl) (by kernel_rfl) (by kernel_rfl) ?_
  refine lin_now 4 (.bool (decide (0 ≤ r))) (some 4) (by kernel_rfl) (by kernel_rfl) (by kernel_rfl) ?_
  refine lin_done 5 (by kernel_rfl) ?_
  generalize hact : Act.put _ (some 4) _ = act
  simp only [Act.put, List.setIfInBounds_toArray, List.set_cons_succ, List.set_cons_zero] at hact
  subst hact
  go_wp2
  go_ret
  refine ⟨⟨decide (0 ≤ r), rfl, ?_⟩, rfl⟩
  rw [decide_eq_false_iff_not, ← hr]
  omega
/-- slices.Clone of bytes. -/
theorem cloneb_walk (u : Value) (zs : List Int) (w : World) (hu : BytesIn w u zs) (hnl : NilOk u) (hm : zs.length ≤ 70368744177664) : Calls Tryd.prog 61 #[u] w (CopyPost zs w) := by
  obtain ⟨sa, c, rfl, hc⟩ := id hu
  cases sa with
  | none =>
    obtain ⟨h1, h2⟩ := id hnl
    have hz : zs = [] := List.eq_nil_of_length_eq_zero h1
    subst hz
    subst h2
    have hnil : ∀ w, (binOp BinOp.eql 22 (.slice none 0 0) (.slice none 0 0)).run Tryd.prog w = .ok (.bool true) w := fun w => by kernel_rfl
    clear hu hnl hc
    show Calls Tryd.prog 61 #[.slice none 0 0] w (CopyPost [] w)
    go_enter Tryd.func61, Tryd.ntmps61
    go_wp2
    go_ret
    exact ⟨_, rfl, ⟨rfl, .inl ⟨rfl, rfl⟩⟩, Below.refl _ _⟩
  | some ad =>
    obtain ⟨n, hn⟩ : ∃ n, Hid (zs.length = n) := ⟨_, rfl⟩
    rw [hn.out] at hu hnl hm ⊢
    have HU : Hid (BytesIn (w.alloc (.cells #[] 5)) (.slice (some ad) n c) zs) := hu.below ((Below.refl w.heap.size w).alloc (Nat.le_refl _) _) (Nat.le_refl _)
    have HN : Hid (NilOk (.slice (some ad) n c)) := trivial
    have hnil : ∀ w, (binOp BinOp.eql 22 (.slice (some ad) n c) (.slice none 0 0)).run Tryd.prog w = .ok (.bool false) w := fun w => by kernel_rfl
    clear hu hnl hc
    go_enter Tryd.func61, Tryd.ntmps61
    go_wp2_with (with_reducible refine wpList_append_bytes (o := ⟨some 7, _, _, _, _, _⟩) ?a1 (.tmp 5) (.tmp 6) ?a2 w.heap.size (.slice (some ⟨w.heap.size, 0, none⟩) 0 0) [] ?a3 ?a4 (.slice (some ad) n c) zs ?a5 HU.out HN.out ?a6 ?a7 ?_)
    case a1 => rfl
    case a2 => rfl
    all_goals try (case a3 => rfl)
    case a4 => exact owns_empty w _ (Nat.le_refl _)
    all_goals try (case a5 => rfl)
    case a6 => simp; rw [hn.out]; omega
    case a7 => simp
    intro v' w' h1 h2
    have H1 := Lib.hid h1
    have H2 := Lib.hid (((Below.refl w.heap.size w).alloc (Nat.le_refl _) (.cells #[] 5)).grown h2 (by simp) (fun k hk => by simp [Value.ownBlock] at hk; omega))
    clear h1 h2
    go_wp2
    go_ret
    refine ⟨v', rfl, ?_, H2.out⟩
    simpa using H1.out
/-- Bytes of memory from B on, but not in block q. -/
def BytesNew (B q : Nat) (w : World) (v : Value) (zs : List Int) : Prop := ∀ F : List Nat, (∀ k ∈ F, k < B ∨ k = q) → BytesOff F w v zs
theorem BytesNew.below {B q : Nat} {w w' : World} {v : Value} {zs : List Int} (h : BytesNew B q w v zs) (hb : Below w.heap.size w w') : BytesNew B q w' v zs := fun F hF => (h F hF).step (Step.of_below hb (Nat.le_refl _))
theorem BytesNew.upd {B q : Nat} {w w' : World} {v : Value} {zs : List Int} (h : BytesNew B q w v zs) (hu : Upd q w w') : BytesNew B q w' v zs := fun F hF =>
  ((h (q :: F) (fun k hk => by rcases List.mem_cons.1 hk with e | e; exact .inr e; exact hF k e)).step (Step.of_upd hu (by simp))).sub (fun k hk => List.mem_cons_of_mem _ hk)
/-- Rows of new memory. -/
def NewRows (B : Nat) (w : World) (v : Value) (zss : List (List Int)) : Prop :=
  ∃ q vs, v = .slice (some ⟨q, 0, none⟩) zss.length zss.length ∧ B ≤ q ∧ vs.length = zss.length ∧ Blk w q 22 vs ∧ zss.length ≤ 1000000 ∧ ∀ (i : Nat) (v : Value) (zs : List Int), vs[i]? = some v → zss[i]? = some zs → BytesNew B q w v zs ∧ NilOk v
theorem NewRows.below {B : Nat} {w w' : World} {v : Value} {zss : List (List Int)} (h : NewRows B w v zss) (hb : Below w.heap.size w w') : NewRows B w' v zss := by
  obtain ⟨q, vs, h1, h2, h3, h4, h5, h6⟩ := h
  exact ⟨q, vs, h1, h2, h3, h4.below hb h4.lt, h5, fun i v zs hv hz => ⟨(h6 i v zs hv hz).1.below hb, (h6 i v zs hv hz).2⟩⟩
theorem NewRows.rws {B : Nat} {w : World} {v : Value} {zss : List (List Int)} (h : NewRows B w v zss) {F : List Nat} (hF : ∀ k ∈ F, k < B ∨ v.ownBlock = some k) : Rws F w v zss := by
  obtain ⟨q, vs, rfl, h2, h3, h4, h5, h6⟩ := h
  refine ⟨vs, ⟨by omega, .inr ⟨q, _, vs.toArray, rfl, Nat.zero_le _, h4, Nat.le_refl _, by unfold maxLen; omega, by simp [h3], ?_⟩⟩, fun i v zs hv hz => ⟨(h6 i v zs hv hz).1 F (fun k hk => ?_), (h6 i v zs hv hz).2⟩⟩
  · show vs.take _ = vs
    rw [List.take_of_length_le (by omega)]
  · rcases hF k hk with h | h
    · exact .inl h
    · exact .inr (by simpa [Value.ownBlock] using h.symm)
theorem NewRows.own {B : Nat} {w : World} {v : Value} {zss : List (List Int)} (h : NewRows B w v zss) : ∀ k, v.ownBlock = some k → B ≤ k ∧ k < w.heap.size := fun k hk => by
  obtain ⟨q, vs, rfl, h2, h3, h4, h5, h6⟩ := h
  obtain rfl : q = k := by simpa [Value.ownBlock] using hk
  exact ⟨h2, h4.lt⟩
theorem infoBytes3 : (Tryd.prog.info? 22).map (fun i => (i.zero, i.size, i.bytes)) = some (some (.slice none 0 0), 1, 24) := by kernel_rfl
theorem madeNil (n : Nat) : (madeCells (Value.slice none 0 0).cells (n * 1)).toList = List.replicate n (.slice none 0 0) := by
  rw [Nat.mul_one, show (Value.slice none 0 0).cells = #[.slice none 0 0] from rfl, toList_madeCells_one]
/-- make([][]byte, n). -/
theorem lin_makerows {ops : Array Oper} {Q : Exit → Act → World → Prop} {a : Act} {w : World} (i : Nat) (n q : Nat) (kl kc : IntKind) (d : Option Tmp) (hi : (ops[i]?.isSome && Region.wanted (opAt ops i) (yielded ops a.tmps)) = true) (hd : (opAt ops i).dst = d)
    (he : execOp a.eval (opAt ops i) = (Instr.makeSlice 75 (.int kl (n : Int)) (.int kc (n : Int)) >>= fun x => pure (.value x))) (hn : n ≤ 1000000) (hq : Hid (w.heap.size = q))
    (h : ∀ w', Blk w' q 22 (List.replicate n (.slice none 0 0)) → Below q w w' → Hid (w'.heap.size = q + 1) → wpFrom Tryd.prog ops Q (i + 1) (a.put d (.slice (some ⟨q, 0, none⟩) n n)) w') : wpFrom Tryd.prog ops Q i a w := by
  obtain ⟨i0, hi0, hz0, hz1, hz2⟩ := info_parts infoBytes3
  obtain rfl := hq.out
  have hr := run_make w 75 22 i0 (.slice none 0 0) Tryd.underlying75 hi0 hz0 kl kc (n : Int) (n : Int) (by omega) (by omega) (by rw [hz2]; omega) (by omega)
  rw [Int.toNat_natCast, hz1] at hr
  refine lin_value i _ d _ hi hd (exec_of _ _ he hr) (h _ (Blk.new2 _ _ _ _ _ rfl ?_) ((Below.refl _ _).alloc (Nat.le_refl _) _) (by unfold Hid; simp))
  rw [← madeNil]
def RecsPost (zss : List (List Int)) (w : World) (e : Ending) (w' : World) : Prop := ∃ v, e = .returned v ∧ NewRows w.heap.size w' v zss ∧ Below w.heap.size w w'
/-- One cell of a row is stored. -/
theorem lin_cell {P : Program} {ops : Array Oper} {Q : Exit → Act → World → Prop} {a : Act} {w : World} (i : Nat) (ty : TypeId) (x y : Operand) (b o : Nat) (t : TypeId) (cs : List Value) (v : Value) (hi : (ops[i]?.isSome && Region.wanted (opAt ops i) (yielded ops a.tmps)) = true) (hd : (opAt ops i).dst = none)
    (ho : (opAt ops i).op = .store ty x y) (hx : a.eval x = .pointer (some ⟨b, o, none⟩)) (hy : a.eval y = v) (hb : Blk w b t cs) (hl : o < cs.length) (hz : (P.info? ty).map (·.size) = some 1) (hv1 : v.cells = #[v]) (hv : v.oneCell' = true)
    (h : ∀ w', Blk w' b t (cs.set o v) → Upd b w w' → Hid (w'.heap.size = w.heap.size) → wpFrom P ops Q (i + 1) (a.put none undef) w') : wpFrom P ops Q i a w :=
  lin_store i (w.setCell ⟨b, o, none⟩ v) hi hd (exec_store_cell ty x y ho b o v hx hy t cs hb hl hz hv1 hv) (h _ (hb.set o v) ((Upd.refl b w).setCell o v) (by unfold Hid; simp [World.setCell]))
set_option maxHeartbeats 4000000 in
theorem records_walk {w : World} {A F : List Nat} {ab d first half gen next : Nat} {stuck : Bool} {recs : List (List Int)} (h : Ar w A F ab d first half gen next stuck recs) (hl : recs.length ≤ 1000000) :
    Calls Tryd.prog 35 #[.pointer (some ⟨ab, 0, none⟩)] w (RecsPost recs w) := by
  obtain ⟨rv, -, hx⟩ := h
  have HX := Lib.hid hx
  obtain ⟨ra, rc, hrv⟩ := hx.hr.slice
  obtain ⟨n, hn⟩ : ∃ n, Hid (recs.length = n) := ⟨_, rfl⟩
  rw [hn.out] at hrv hl
  subst hrv
  obtain ⟨B, hB⟩ : ∃ B, Hid (w.heap.size = B) := ⟨_, rfl⟩
  unfold RecsPost
  rw [hB.out]
  have HP : Hid (PartsOff [] w (.slice ra n rc) recs) := hx.hr.parts (fun zs hz => by have := hx.short zs hz; omega) (by rw [hn.out]; exact hl) (fun k hk => by simp at hk) (fun g _ => by simp)
  have C5 := Lib.hid hx.c5
  have HSH := Lib.hid hx.short
  have ABL : Hid (ab < B) := by unfold Hid; rw [← hB.out]; exact hx.hb.lt
  clear hx
  go_enter Tryd.func35, Tryd.ntmps35
  go_upto_region 1 with (fail)
  refine lin_begin (opsOf Tryd.f35 1) (by kernel_rfl) ?_
  refine lin_now 0 (.pointer (some ⟨ab, 0, none⟩)) (some 6) (by kernel_rfl) (by kernel_rfl) (by kernel_rfl) ?_
  refine lin_now 1 (.pointer (some ⟨ab, 0, none⟩)) (some 7) (by kernel_rfl) (by kernel_rfl) (by kernel_rfl) ?_
  refine lin_now 2 (.pointer (some ⟨ab, 5, none⟩)) (some 8) (by kernel_rfl) (by kernel_rfl) (by kernel_rfl) ?_
  refine lin_now 3 (.slice ra n rc) (some 9) (by kernel_rfl) (by kernel_rfl) (exec_load_cell 75 (.tmp 8) (by kernel_rfl) ab 5 (by kernel_rfl) _ C5.out _ Tryd.underlying75 rfl) ?_
  refine lin_now 4 (.int .i64 (n : Int)) (some 10) (by kernel_rfl) (by kernel_rfl) (by kernel_rfl) ?_
  refine lin_makerows 5 n B .i64 .i64 (some 11) (by kernel_rfl) (by kernel_rfl) (by kernel_rfl) (by omega) hB ?_
  intro w1 b1 be1 hs1
  refine lin_now 6 (.slice (some ⟨B, 0, none⟩) n n) (some 3) (by kernel_rfl) (by kernel_rfl) (by kernel_rfl) ?_
  refine lin_done 7 (by kernel_rfl) ?_
  have X1 := Lib.hid b1
  have BE1 := Lib.hid be1
  have C51 : Hid (w1.cell? ⟨ab, 5, none⟩ = some (.slice ra n rc)) := by unfold Hid; rw [be1.cell (p := ⟨ab, 5, none⟩) ABL.out]; exact C5.out
  clear b1 be1 C5
  generalize hact : Act.put _ (some 3) _ = act
  simp only [Act.put, List.setIfInBounds_toArray, List.set_cons_succ, List.set_cons_zero] at hact
  subst hact
  go_upto_region 2 with (fail)
  refine lin_begin (opsOf Tryd.f35 2) (by kernel_rfl) ?_
  refine lin_now 0 (.pointer (some ⟨ab, 0, none⟩)) (some 12) (by kernel_rfl) (by kernel_rfl) (by kernel_rfl) ?_
  refine lin_now 1 (.pointer (some ⟨ab, 0, none⟩)) (some 13) (by kernel_rfl) (by kernel_rfl) (by kernel_rfl) ?_
  refine lin_now 2 (.pointer (some ⟨ab, 5, none⟩)) (some 14) (by kernel_rfl) (by kernel_rfl) (by kernel_rfl) ?_
  refine lin_now 3 (.slice ra n rc) (some 15) (by kernel_rfl) (by kernel_rfl) (exec_load_cell 75 (.tmp 14) (by kernel_rfl) ab 5 (by kernel_rfl) _ C51.out _ Tryd.underlying75 rfl) ?_
  refine lin_now 4 (.int .i64 (n : Int)) (some 16) (by kernel_rfl) (by kernel_rfl) (by kernel_rfl) ?_
  refine lin_now 5 (.int .i64 0) (some 17) (by kernel_rfl) (by kernel_rfl) (by kernel_rfl) ?_
  refine lin_done 6 (by kernel_rfl) ?_
  generalize hact : Act.put _ (some 17) _ = act
  simp only [Act.put, List.setIfInBounds_toArray, List.set_cons_succ, List.set_cons_zero] at hact
  subst hact
  go_wp2
  go_loopw [17, 4, 5] (fun iv _ _ wr => ∃ (i : Nat) (vs : List Value), i ≤ n ∧ iv = .int .i64 (i : Int) ∧ Hid (vs.length = n) ∧ Blk wr B 22 vs ∧ Below B w wr ∧ Hid (∀ (j : Nat) (v : Value) (zs : List Int), j < i → vs[j]? = some v → recs[j]? = some zs → BytesNew B B wr v zs ∧ NilOk v)) (fun iv _ _ _ => n - (intOf iv).toNat)
  case atStart => exact ⟨0, _, Nat.zero_le _, rfl, by unfold Hid; simp, X1.out, BE1.out, fun j v zs hj => absurd hj (by omega)⟩
  case round =>
    obtain ⟨i, vs, hi, rfl, hvs, hbl, hbe, hall⟩ := hrel
    have X2 := Lib.hid hbl
    have BE2 := Lib.hid hbe
    have HPW : Hid (PartsOff [] wr (.slice ra n rc) recs) := HP.out.step (Step.of_below hbe (Nat.le_of_eq hB.out))
    clear hbl hbe X1 BE1 hs1 C51
    by_cases hlt : i < n
    · have r1 : (i : Int) < (n : Int) := by omega
      obtain ⟨qb, qo, pv, rfl, hcell, hpb, hpn, hqb⟩ := HPW.out.part hn.out hlt
      have HC := Lib.hid hcell
      obtain ⟨rec, hrc⟩ : ∃ rc, Hid (rowAt recs i = rc) := ⟨_, rfl⟩
      rw [hrc.out] at hpb
      have PB := Lib.hid hpb.in
      have PN := Lib.hid hpn
      obtain ⟨pa, pc, e8, -⟩ := id PB.out
      subst e8
      have hm : rec.length ≤ 2000 := by rw [← hrc.out]; exact HSH.out _ (List.mem_of_getElem? (rowAt_get (by rw [hn.out]; omega)))
      clear hcell hpb hpn hqb HPW
      go_upto_region 4 with (fail)
      refine lin_begin (opsOf Tryd.f35 4) (by kernel_rfl) ?_
      refine lin_now 0 (.int .i64 (i : Int)) (some 19) (by kernel_rfl) (by kernel_rfl) (by kernel_rfl) ?_
      refine lin_now 1 (.pointer (some ⟨qb, qo + i, none⟩)) (some 20) (by kernel_rfl) (by kernel_rfl) (exec_indexAt 75 (.tmp 15) (.tmp 17) (by kernel_rfl) _ _ _ (by kernel_rfl) (by kernel_rfl) (run_at_part qb qo n rc i hlt wr)) ?_
      refine lin_now 2 (.slice pa rec.length pc) (some 21) (by kernel_rfl) (by kernel_rfl) (exec_load_cell 22 (.tmp 20) (by kernel_rfl) qb (qo + i) (by kernel_rfl) _ HC.out _ Tryd.underlying22 rfl) ?_
      refine lin_now 3 (.int .i64 (i : Int)) (some 4) (by kernel_rfl) (by kernel_rfl) (by kernel_rfl) ?_
      refine lin_now 4 (.slice pa rec.length pc) (some 5) (by kernel_rfl) (by kernel_rfl) (by kernel_rfl) ?_
      refine lin_done 5 (by kernel_rfl) ?_
      generalize hact : Act.put _ (some 5) _ = act
      simp only [Act.put, List.setIfInBounds_toArray, List.set_cons_succ, List.set_cons_zero] at hact
      subst hact
      go_upto_region 5 with (fail)
      refine lin_begin (opsOf Tryd.f35 5) (by kernel_rfl) ?_
      refine lin_now 0 (.slice (some ⟨B, 0, none⟩) n n) (some 22) (by kernel_rfl) (by kernel_rfl) (by kernel_rfl) ?_
      refine lin_now 1 (.int .i64 (i : Int)) (some 23) (by kernel_rfl) (by kernel_rfl) (by kernel_rfl) ?_
      refine lin_now 2 (.slice pa rec.length pc) (some 24) (by kernel_rfl) (by kernel_rfl) (by kernel_rfl) ?_
      refine lin_call 3 61 #[.slice pa rec.length pc] (some 25) _ (by kernel_rfl) (by kernel_rfl) (by kernel_rfl) (cloneb_walk _ rec _ PB.out PN.out (by omega)) ?_
      rintro e w3 ⟨v3, rfl, ho3, hb3⟩
      refine ⟨_, rfl, ?_⟩
      refine lin_now 4 (.pointer (some ⟨B, 0 + i, none⟩)) (some 26) (by kernel_rfl) (by kernel_rfl) (exec_indexAt 75 (.tmp 22) (.tmp 23) (by kernel_rfl) _ _ _ (by kernel_rfl) (by kernel_rfl) (run_at_part B 0 n n i hlt _)) ?_
      have O3 : v3.cells = #[v3] ∧ v3.oneCell' = true := by obtain ⟨a, c, e, -⟩ := owns_bytes ho3; rw [e]; exact ⟨rfl, rfl⟩
      have X3 : Blk w3 B 22 vs := X2.out.below hb3 X2.out.lt
      have N3 : BytesNew B B w3 v3 rec := fun F hF => owns_off ho3 (fun k hk => by have := X2.out.lt; rcases hF k hk with h | h <;> omega)
      refine lin_cell 5 22 (.tmp 26) (.tmp 25) B (0 + i) 22 vs v3 (by kernel_rfl) (by kernel_rfl) (by kernel_rfl) (by kernel_rfl) (by kernel_rfl) X3 (by rw [hvs.out]; omega) (by kernel_rfl) O3.1 O3.2 ?_
      intro w4 b4 u4 hs4
      refine lin_done 6 (by kernel_rfl) ?_
      have X4 := Lib.hid b4
      have BE4 : Hid (Below B w w4) := u4.below (BE2.out.trans (hb3.mono (Nat.le_of_lt X2.out.lt))) (Nat.le_refl _) (Nat.le_of_lt X3.lt)
      have V4 : Hid ((vs.set (0 + i) v3).length = n) := by unfold Hid; rw [List.length_set]; exact hvs.out
      have A4 : Hid (∀ (j : Nat) (v : Value) (zs : List Int), j < i + 1 → (vs.set (0 + i) v3)[j]? = some v → recs[j]? = some zs → BytesNew B B w4 v zs ∧ NilOk v) := fun j v zs hj hv hz => by
        rw [Nat.zero_add, List.getElem?_set] at hv
        by_cases e : i = j
        · subst e
          rw [if_pos rfl] at hv
          split at hv
          · obtain rfl := Option.some.inj hv
            rw [rowAt_get (by rw [hn.out]; omega), hrc.out] at hz
            obtain rfl := Option.some.inj hz
            exact ⟨N3.upd u4, owns_nilok ho3⟩
          · cases hv
        · rw [if_neg e] at hv
          obtain ⟨h1, h2⟩ := hall.out j v zs (by omega) hv hz
          exact ⟨(h1.below hb3).upd u4, h2⟩
      clear b4 u4 hs4 X3 N3 ho3 hb3 X2 BE2 hall PB PN HC
      generalize hact : Act.put _ none undef = act
      simp only [Act.put, List.setIfInBounds_toArray, List.set_cons_succ, List.set_cons_zero] at hact
      subst hact
      go_wp2
      exact ⟨⟨i + 1, _, by omega, by go_num, V4, X4.out, BE4.out, A4⟩, by simp [intOf]; omega⟩
    · have r1 : ¬ (i : Int) < (n : Int) := by omega
      obtain rfl : i = n := by omega
      go_wp2
      go_ret
      refine ⟨_, rfl, ⟨B, vs, by rw [hn.out]; rfl, Nat.le_refl _, by rw [hvs.out, hn.out], X2.out, by rw [hn.out]; exact hl, fun j v zs hv hz => ?_⟩, BE2.out⟩
      exact hall.out j v zs (by have := (List.getElem?_eq_some_iff.1 hz).1; rw [hn.out] at this; exact this) hv hz
end Go.Proofs.YtngpmilojfbpmaaDoor
