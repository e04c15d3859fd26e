/- The reference's disk in memory; there, Limit, Write. -/
import Derived.Test.YtpbilngjjlabiaaDskRp
namespace Go.Proofs.Ytpbilngjjlabiaa
open Go Go.RowKit
set_option maxRecDepth 100000

def rcells (len lB lc : Nat) (pv : Value) (left : Int) : List Value := [.slice (some ⟨lB, 0, none⟩) len lc, pv, .int .i64 left]
def rfoot (r lB : Nat) (pv : Value) : List Nat := r :: lB :: pv.ownBlock.toList
structure Rkx (w : World) (r sz lB lc : Nat) (rl : List Value) (pv : Value) (last : List Int) (pend : List Wr) (left : Int) : Prop where
  hd : Blk w r 47 (rcells (64 * sz) lB lc pv left)
  hl : Blk w lB 5 (ints .u8 last ++ rl)
  hp : w.ownsRow 0 60 65 pv pend.length (pcells pend)
  n1 : r ≠ lB
  n4 : ∀ g, pv.ownBlock = some g → g ≠ r ∧ g ≠ lB
  ls : last.length = 64 * sz
  lc : 64 * sz ≤ lc
  ok : okW sz pend
  one : 1 ≤ sz
  big : sz ≤ 4096
def Rk (w : World) (F : List Nat) (r sz : Nat) (last : List Int) (pend : List Wr) (left : Int) : Prop :=
  ∃ lB lc rl pv, F = rfoot r lB pv ∧ Rkx w r sz lB lc rl pv last pend left
def RkPost (F : List Nat) (r sz : Nat) (last : List Int) (pend : List Wr) (left : Int) (v : Value) (w : World) (e : Ending) (w' : World) : Prop :=
  e = .returned v ∧ ∃ F', Rk w' F' r sz last pend left ∧ Step F w F' w'
theorem Rk.lt {w : World} {F : List Nat} {r sz : Nat} {last : List Int} {pend : List Wr} {left : Int} (h : Rk w F r sz last pend left) : ∀ k ∈ F, k < w.heap.size := by
  obtain ⟨lB, lc, rl, pv, rfl, hx⟩ := h
  intro k hk
  simp only [rfoot, List.mem_cons, Option.mem_toList] at hk
  rcases hk with rfl | rfl | hk
  · exact hx.hd.lt
  · exact hx.hl.lt
  · exact (hx.hp.lt k hk).2
theorem Rk.step {w w' : World} {F G G' : List Nat} {r sz : Nat} {last : List Int} {pend : List Wr} {left : Int} (h : Rk w F r sz last pend left) (hs : Step G w G' w') (hd : ∀ k ∈ F, k ∉ G) : Rk w' F r sz last pend left := by
  obtain ⟨lB, lc, rl, pv, rfl, hx⟩ := h
  exact ⟨lB, lc, rl, pv, rfl, ⟨hs.blk hx.hd (hd _ (by simp [rfoot])), hs.blk hx.hl (hd _ (by simp [rfoot])), own_step hx.hp hs (fun g hg => hd g (by simp [rfoot, hg])), hx.n1, hx.n4, hx.ls, hx.lc, hx.ok, hx.one, hx.big⟩⟩
theorem Rk.below {w w' : World} {F : List Nat} {r sz : Nat} {last : List Int} {pend : List Wr} {left : Int} (h : Rk w F r sz last pend left) (hb : Below w.heap.size w w') : Rk w' F r sz last pend left :=
  h.step (G := []) (G' := []) ⟨hb.os, hb.tape, hb.output, hb.size, fun k hk _ => hb.block k hk, fun k hk => by simp at hk⟩ (fun k _ => by simp)
section
variable {w : World} {r sz lB lc : Nat} {rl : List Value} {pv : Value} {last : List Int} {pend : List Wr} {left : Int}
theorem Rkx.c0 (h : Rkx w r sz lB lc rl pv last pend left) : w.cell? ⟨r, 0, none⟩ = some (.slice (some ⟨lB, 0, none⟩) (64 * sz) lc) := h.hd.cell rfl
theorem Rkx.c1 (h : Rkx w r sz lB lc rl pv last pend left) : w.cell? ⟨r, 1, none⟩ = some pv := h.hd.cell rfl
theorem Rkx.c2 (h : Rkx w r sz lB lc rl pv last pend left) : w.cell? ⟨r, 2, none⟩ = some (.int .i64 left) := h.hd.cell rfl
theorem Rkx.pv' (h : Rkx w r sz lB lc rl pv last pend left) : ∃ a c, pv = .slice a pend.length c := by
  rcases h.hp.2 with ⟨e, h0⟩ | ⟨g, cap, cur, e, _⟩
  · exact ⟨none, 0, by rw [e, h0]⟩
  · exact ⟨_, _, e⟩
theorem Rkx.limit (h : Rkx w r sz lB lc rl pv last pend left) (l : Int) : Rkx (w.setCell ⟨r, 2, none⟩ (.int .i64 l)) r sz lB lc rl pv last pend l :=
  ⟨h.hd.set 2 _, h.hl.other (Ne.symm h.n1) _, own_upd h.hp ((Upd.refl r w).setCell 2 _) (fun g hg => (h.n4 g hg).1), h.n1, h.n4, h.ls, h.lc, h.ok, h.one, h.big⟩
theorem Rkx.gone (h : Rkx w r sz lB lc rl pv last pend left) : Rkx (w.setCell ⟨r, 1, none⟩ (.slice none 0 0)) r sz lB lc rl (.slice none 0 0) last [] left :=
  ⟨h.hd.set 1 _, h.hl.other (Ne.symm h.n1) _, ⟨rfl, .inl ⟨rfl, rfl⟩⟩, h.n1, (fun g hg => by cases hg), h.ls, h.lc, (fun x hx => by simp at hx), h.one, h.big⟩
theorem Rkx.alloc (h : Rkx w r sz lB lc rl pv last pend left) (o : Obj) : Rkx (w.alloc o) r sz lB lc rl pv last pend left :=
  ⟨h.hd.alloc o, h.hl.alloc o, h.hp.alloc o, h.n1, h.n4, h.ls, h.lc, h.ok, h.one, h.big⟩
theorem Rkx.next {w' : World} (h : Rkx w r sz lB lc rl pv last pend left) (hb : Below w.heap.size w w') : Rkx w' r sz lB lc rl pv last pend left :=
  ⟨h.hd.below hb h.hd.lt, h.hl.below hb h.hl.lt, own_step h.hp (Step.of_below (F := []) hb (Nat.le_refl _)) (fun g _ => by simp), h.n1, h.n4, h.ls, h.lc, h.ok, h.one, h.big⟩
end
theorem rfoot_none (r lB : Nat) (pv : Value) : ∀ k ∈ rfoot r lB (.slice none 0 0), k ∈ rfoot r lB pv := fun k hk => by
  simp only [rfoot, Value.ownBlock, Option.toList_none, List.mem_cons, List.not_mem_nil, or_false] at hk
  simp only [rfoot, List.mem_cons]
  rcases hk with h | h
  · exact .inl h
  · exact .inr (.inl h)
theorem own_range2 {w : World} {g n cap sz k : Nat} {p : List Wr} (h : w.ownsRow 0 60 65 (.slice (some ⟨g, 0, none⟩) n cap) p.length (pcells p)) (hok : okW sz p) (hk : k < p.length) : w.rangeAt g (0 + 65 * k) (wcells (wrAt p k)) := fun j v hv => by
  obtain ⟨h1, h2⟩ := h
  rcases h2 with ⟨e, _⟩ | ⟨g', cap', cur, e, _, hg, _, _, hs, ht⟩
  · cases e
  · obtain ⟨e1, -, -⟩ := Value.slice.inj e
    obtain rfl : g = g' := by simpa using e1
    rw [cell_of_row w g _ cur 60 (0, 0) hg]
    have h3 := pcells_at hok hk hv
    rw [← ht, List.getElem?_take] at h3
    split at h3
    · rw [Nat.zero_add]; simpa using h3
    · cases h3
theorem elemRwrs : Try.prog.underlying 45 = some (.slice (Try.prog.elem 45)) := by kernel_rfl
theorem run_at_rwr (B off n cap m : Nat) (hm : m < n) (w : World) : (Instr.indexAt 45 (.slice (some ⟨B, off, none⟩) n cap) (.int .i64 (m : Int))).run Try.prog w = .ok (.pointer (some ⟨B, off + 65 * m, none⟩)) w := by
  rw [run_indexAt_slice w 45 _ _ _ _ _ elemRwrs]
  have hz : (sizeOf (Try.prog.elem 45)).run Try.prog w = .ok 65 w := by kernel_rfl
  rw [if_pos (by omega), hz, Result.andThen_ok, Addr.add_mid, Int.toNat_natCast, Nat.mul_comm]
theorem sizeRwr : (Try.prog.info? 60).map (·.size) = some 65 := by kernel_rfl
theorem sizeRwrs : (Try.prog.info? 45).map (·.size) = some 1 := by kernel_rfl
theorem infoRwr (x : Wr) (h : x.2.length = 64) : (Try.prog.info? 60).map (·.size) = some (wcells x).length := by rw [wcells_length h]; exact sizeRwr
theorem infoRwr3 : (Try.prog.info? 60).map (fun i => (i.zero, i.size, i.bytes)) = some (some (.agg zW.toArray), 65, 72) := by kernel_rfl
theorem run_build_rwr (x : Wr) (hx : x.2.length = 64) (w : World) : (Instr.build 60 #[(0, .int .i64 (x.1 : Int)), (1, .agg (ints .u8 x.2).toArray)]).run Try.prog w = .ok (.agg (wcells x).toArray) w := by
  have h : (Instr.build 60 #[(0, .int .i64 (x.1 : Int)), (1, .agg (ints .u8 x.2).toArray)]).run Try.prog w = ((match Instr.fill (fun i => (#[(0, 1), (1, 64)] : Array (Nat × Nat))[i]?) zW.toArray [(0, .int .i64 (x.1 : Int)), (1, .agg (ints .u8 x.2).toArray)] with | some cells => pure (.agg cells) | _ => stuck "build: no such field, or a part of the wrong size" : Sem Value)).run Try.prog w := by kernel_rfl
  rw [h, fill_one _ zW [.int .i64 (x.1 : Int)] 0 0 1 _ _ rfl rfl rfl (by simp [zW, ints_length, zB_length]), fill_one _ _ (ints .u8 x.2) 1 1 64 _ _ rfl rfl (by rw [ints_length, hx]) (by rw [splice_length (by simp [zW, ints_length, zB_length])]; simp [zW, ints_length, zB_length]), Instr.fill]
  have e : splice (splice zW 0 [.int .i64 (x.1 : Int)]) 1 (ints .u8 x.2) = wcells x := by
    have e1 : splice zW 0 [.int .i64 (x.1 : Int)] = .int .i64 (x.1 : Int) :: ints .u8 zB := rfl
    rw [e1]
    unfold splice wcells
    rw [List.drop_eq_nil_of_le (by simp [ints_length, hx, zB_length])]
    simp
  rw [e]
  rfl
theorem run_buildSlice_rwr (x : Wr) (hx : x.2.length = 64) (w : World) : (Instr.buildSlice 45 1 #[(0, .agg (wcells x).toArray)]).run Try.prog w = .ok (.slice (some ⟨w.heap.size, 0, none⟩) 1 1) (w.alloc (.cells (wcells x).toArray 60)) := by
  have h : (Instr.buildSlice 45 1 #[(0, .agg (wcells x).toArray)]).run Try.prog w = ((match Instr.fill (fun i => some (i * 65, 65)) zW.toArray [(0, .agg (wcells x).toArray)] with | some cells => (do pure (.slice (some (← newRow 60 cells)) 1 1)) | _ => stuck "buildSlice: a part of the wrong size" : Sem Value)).run Try.prog w := by kernel_rfl
  rw [h, fill_one _ zW (wcells x) 0 0 65 _ _ rfl rfl (wcells_length hx) (by simp [zW, ints_length, zB_length]), Instr.fill]
  have e : splice zW 0 (wcells x) = wcells x := by
    unfold splice
    rw [wcells_length hx, List.drop_eq_nil_of_le (by simp [zW, ints_length, zB_length])]
    simp
  rw [e]
  rfl
theorem tdiv64 (sz : Nat) : ((64 * sz : Nat) : Int).tdiv 64 = (sz : Int) := by
  rw [Int.tdiv_eq_ediv_of_nonneg (by omega)]
  omega
theorem there_yes (r sz n c : Nat) (a : Option Addr) (w : World) (hc : w.cell? ⟨r, 0, none⟩ = some (.slice a (64 * sz) c)) (hn : n < sz) (hb : sz ≤ 4096) : Calls Try.prog 27 #[.pointer (some ⟨r, 0, none⟩), .int .i64 (n : Int)] w fun e w' => e = .returned (.bool true) ∧ w = w' := by
  have q1 : (n : Int) < (sz : Int) := by omega
  have t1 := tdiv64 sz
  have hL : 64 * sz ≤ 262144 := by omega
  generalize 64 * sz = L at *
  go_enter Try.func27, Try.ntmps27
  go_wp2
  go_ret
  exact ⟨rfl, rfl⟩
theorem there_no (r sz c : Nat) (n : Int) (a : Option Addr) (w : World) (hc : w.cell? ⟨r, 0, none⟩ = some (.slice a (64 * sz) c)) (hn : n < 0 ∨ (sz : Int) ≤ n) (hb : sz ≤ 4096) : Calls Try.prog 27 #[.pointer (some ⟨r, 0, none⟩), .int .i64 n] w fun e w' => e = .returned (.bool false) ∧ w = w' := by
  have t1 := tdiv64 sz
  have hL : 64 * sz ≤ 262144 := by omega
  by_cases h : 0 ≤ n
  · have q1 : ¬ n < (sz : Int) := by omega
    generalize 64 * sz = L at *
    go_enter Try.func27, Try.ntmps27
    go_wp2
    go_ret
    exact ⟨rfl, rfl⟩
  · generalize 64 * sz = L at *
    go_enter Try.func27, Try.ntmps27
    go_wp2
    go_ret
    exact ⟨rfl, rfl⟩
theorem rlimit_walk (r sz : Nat) (F : List Nat) (last : List Int) (pend : List Wr) (left l : Int) (w : World) (h : Rk w F r sz last pend left) :
    Calls Try.prog 17 #[.pointer (some ⟨r, 0, none⟩), .int .i64 l] w (RkPost F r sz last pend (if l < -1 then -1 else l) (.tuple #[]) w) := by
  obtain ⟨lB, lc, rl, pv, rfl, hx⟩ := h
  have c2 := hx.c2
  have f2 := hx.hd.free 2
  obtain ⟨m, hm⟩ : ∃ m, Hid ((if l < -1 then -1 else l) = m) := ⟨_, rfl⟩
  rw [hm.out]
  have HX := Lib.hid (hx.limit m)
  clear hx
  go_enter Try.func17, Try.ntmps17
  by_cases hl : l < -1
  · obtain rfl : -1 = m := by rw [← hm.out, if_pos hl]
    go_wp2
    go_end0
    exact ⟨rfl, _, ⟨lB, lc, rl, pv, rfl, HX.out⟩, Step.of_upd ((Upd.refl r w).setCell 2 _) (by simp [rfoot])⟩
  · obtain rfl : l = m := by rw [← hm.out, if_neg hl]
    go_wp2
    go_end0
    exact ⟨rfl, _, ⟨lB, lc, rl, pv, rfl, HX.out⟩, Step.of_upd ((Upd.refl r w).setCell 2 _) (by simp [rfoot])⟩
end Go.Proofs.Ytpbilngjjlabiaa
