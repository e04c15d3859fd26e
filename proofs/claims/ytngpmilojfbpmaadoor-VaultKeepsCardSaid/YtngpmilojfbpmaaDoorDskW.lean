/- package disk: has, Pending, Size, Limit, Write. -/
import Derived.Test.YtngpmilojfbpmaaDoorDskB
namespace Go.Proofs.YtngpmilojfbpmaaDoor
open Go Go.RowKit
set_option maxRecDepth 100000

theorem exec_of {P : Program} {a : Act} {w w' : World} {op : Oper} (s : Sem Value) (v : Value) (h : execOp a.eval op = (s >>= fun x => pure (.value x))) (hr : s.run P w = .ok v w') : (execOp a.eval op).run P w = .ok (.value v) w' := by
  rw [h, Sem.run_bind, hr]; rfl
theorem elemBlocks : Tryd.prog.underlying 67 = some (.slice (Tryd.prog.elem 67)) := by kernel_rfl
theorem elemWrites : Tryd.prog.underlying 87 = some (.slice (Tryd.prog.elem 87)) := by kernel_rfl
theorem run_at_block (B off n cap m : Nat) (hm : m < n) (w : World) : (Instr.indexAt 67 (.slice (some ⟨B, off, none⟩) n cap) (.int .i64 (m : Int))).run Tryd.prog w = .ok (.pointer (some ⟨B, off + 64 * m, none⟩)) w := by
  rw [run_indexAt_slice w 67 _ _ _ _ _ elemBlocks]
  have hz : (sizeOf (Tryd.prog.elem 67)).run Tryd.prog w = .ok 64 w := by kernel_rfl
  rw [if_pos (by omega), hz, Result.andThen_ok, Addr.add_mid, Int.toNat_natCast, Nat.mul_comm]
theorem run_at_write (B off n cap m : Nat) (hm : m < n) (w : World) : (Instr.indexAt 87 (.slice (some ⟨B, off, none⟩) n cap) (.int .i64 (m : Int))).run Tryd.prog w = .ok (.pointer (some ⟨B, off + 65 * m, none⟩)) w := by
  rw [run_indexAt_slice w 87 _ _ _ _ _ elemWrites]
  have hz : (sizeOf (Tryd.prog.elem 87)).run Tryd.prog w = .ok 65 w := by kernel_rfl
  rw [if_pos (by omega), hz, Result.andThen_ok, Addr.add_mid, Int.toNat_natCast, Nat.mul_comm]
theorem sizeBlock : (Tryd.prog.info? 91).map (·.size) = some 64 := by kernel_rfl
theorem sizeWrite : (Tryd.prog.info? 93).map (·.size) = some 65 := by kernel_rfl
theorem sizeWrites : (Tryd.prog.info? 87).map (·.size) = some 1 := by kernel_rfl
theorem infoBlk (l : List Int) (h : l.length = 64) : (Tryd.prog.info? 91).map (·.size) = some (ints .u8 l).length := by rw [ints_length, h]; exact sizeBlock
theorem infoWr (x : Wr) (h : x.2.length = 64) : (Tryd.prog.info? 93).map (·.size) = some (wcells x).length := by rw [wcells_length h]; exact sizeWrite
/-- A sector of zeros. -/
def zB : List Int := List.replicate 64 0
theorem zB_length : zB.length = 64 := rfl
def zW : List Value := .int .i64 0 :: ints .u8 zB
theorem infoWrite3 : (Tryd.prog.info? 93).map (fun i => (i.zero, i.size, i.bytes)) = some (some (.agg zW.toArray), 65, 72) := by kernel_rfl
theorem infoBlock3 : (Tryd.prog.info? 91).map (fun i => (i.zero, i.size, i.bytes)) = some (some (.agg (ints .u8 zB).toArray), 64, 64) := by kernel_rfl
theorem run_build_write (x : Wr) (hx : x.2.length = 64) (w : World) : (Instr.build 93 #[(0, .int .i64 (x.1 : Int)), (1, .agg (ints .u8 x.2).toArray)]).run Tryd.prog w = .ok (.agg (wcells x).toArray) w := by
  have h : (Instr.build 93 #[(0, .int .i64 (x.1 : Int)), (1, .agg (ints .u8 x.2).toArray)]).run Tryd.prog w = ((match Instr.fill (fun i => (#[(0, 1), (1, 64)] : Array (Nat × Nat))[i]?) zW.toArray [(0, .int .i64 (x.1 : Int)), (1, .agg (ints .u8 x.2).toArray)] with | some cells => pure (.agg cells) | _ => stuck "build: no such field, or a part of the wrong size" : Sem Value)).run Tryd.prog w := by kernel_rfl
  rw [h, fill_one _ zW [.int .i64 (x.1 : Int)] 0 0 1 _ _ rfl rfl rfl (by simp [zW, ints_length, zB_length]), fill_one _ _ (ints .u8 x.2) 1 1 64 _ _ rfl rfl (by rw [ints_length, hx]) (by rw [splice_length (by simp [zW, ints_length, zB_length])]; simp [zW, ints_length, zB_length]), Instr.fill]
  have e : splice (splice zW 0 [.int .i64 (x.1 : Int)]) 1 (ints .u8 x.2) = wcells x := by
    have e1 : splice zW 0 [.int .i64 (x.1 : Int)] = .int .i64 (x.1 : Int) :: ints .u8 zB := rfl
    rw [e1]
    unfold splice wcells
    rw [List.drop_eq_nil_of_le (by simp [ints_length, hx, zB_length])]
    simp
  rw [e]
  rfl
theorem run_buildSlice_write (x : Wr) (hx : x.2.length = 64) (w : World) : (Instr.buildSlice 87 1 #[(0, .agg (wcells x).toArray)]).run Tryd.prog w = .ok (.slice (some ⟨w.heap.size, 0, none⟩) 1 1) (w.alloc (.cells (wcells x).toArray 93)) := by
  have h : (Instr.buildSlice 87 1 #[(0, .agg (wcells x).toArray)]).run Tryd.prog w = ((match Instr.fill (fun i => some (i * 65, 65)) zW.toArray [(0, .agg (wcells x).toArray)] with | some cells => (do pure (.slice (some (← newRow 93 cells)) 1 1)) | _ => stuck "buildSlice: a part of the wrong size" : Sem Value)).run Tryd.prog w := by kernel_rfl
  rw [h, fill_one _ zW (wcells x) 0 0 65 _ _ rfl rfl (wcells_length hx) (by simp [zW, ints_length, zB_length]), Instr.fill]
  have e : splice zW 0 (wcells x) = wcells x := by
    unfold splice
    rw [wcells_length hx, List.drop_eq_nil_of_le (by simp [zW, ints_length, zB_length])]
    simp
  rw [e]
  rfl

theorem has_yes (d sz n c : Nat) (a : Option Addr) (w : World) (hc : w.cell? ⟨d, 0, none⟩ = some (.slice a sz c)) (hn : n < sz) : Calls Tryd.prog 103 #[.pointer (some ⟨d, 0, none⟩), .int .i64 (n : Int)] w fun e w' => e = .returned (.bool true) ∧ w = w' := by
  have q1 : (n : Int) < (sz : Int) := by omega
  go_enter Tryd.func103, Tryd.ntmps103
  go_wp2
  go_ret
  exact ⟨rfl, rfl⟩
theorem has_no (d sz c : Nat) (n : Int) (a : Option Addr) (w : World) (hc : w.cell? ⟨d, 0, none⟩ = some (.slice a sz c)) (hn : n < 0 ∨ (sz : Int) ≤ n) : Calls Tryd.prog 103 #[.pointer (some ⟨d, 0, none⟩), .int .i64 n] w fun e w' => e = .returned (.bool false) ∧ w = w' := by
  by_cases h : 0 ≤ n
  · have q1 : ¬ n < (sz : Int) := by omega
    go_enter Tryd.func103, Tryd.ntmps103
    go_wp2
    go_ret
    exact ⟨rfl, rfl⟩
  · go_enter Tryd.func103, Tryd.ntmps103
    go_wp2
    go_ret
    exact ⟨rfl, rfl⟩
section
variable {w : World} {d sz sB dB sc dc : Nat} {rs rd : List Value} {pv : Value} {seen dur : List Int} {pend : List Wr} {left : Int}
theorem Dkx.c0 (h : Dkx w d sz sB dB sc dc rs rd pv seen dur pend left) : w.cell? ⟨d, 0, none⟩ = some (.slice (some ⟨sB, 0, none⟩) sz sc) := h.hd.cell rfl
theorem Dkx.c1 (h : Dkx w d sz sB dB sc dc rs rd pv seen dur pend left) : w.cell? ⟨d, 1, none⟩ = some (.slice (some ⟨dB, 0, none⟩) sz dc) := h.hd.cell rfl
theorem Dkx.c2 (h : Dkx w d sz sB dB sc dc rs rd pv seen dur pend left) : w.cell? ⟨d, 2, none⟩ = some pv := h.hd.cell rfl
theorem Dkx.c3 (h : Dkx w d sz sB dB sc dc rs rd pv seen dur pend left) : w.cell? ⟨d, 3, none⟩ = some (.int .i64 left) := h.hd.cell rfl
/-- pv is a slice of so many. -/
theorem Dkx.pv' (h : Dkx w d sz sB dB sc dc rs rd pv seen dur pend left) : ∃ a c, pv = .slice a pend.length c := by
  rcases h.hp.2 with ⟨e, h0⟩ | ⟨g, cap, cur, e, _⟩
  · exact ⟨none, 0, by rw [e, h0]⟩
  · exact ⟨_, _, e⟩
/-- Only the block of the disk itself has changed: its limit. -/
theorem Dkx.limit (h : Dkx w d sz sB dB sc dc rs rd pv seen dur pend left) (l : Int) : Dkx (w.setCell ⟨d, 3, none⟩ (.int .i64 l)) d sz sB dB sc dc rs rd pv seen dur pend l :=
  ⟨h.hd.set 3 _, h.hs.other (Ne.symm h.n1) _, h.hu.other (Ne.symm h.n2) _, own_upd h.hp ((Upd.refl d w).setCell 3 _) (fun g hg => (h.n4 g hg).1), h.n1, h.n2, h.n3, h.n4, h.ls, h.lu, h.ok, h.one, h.big⟩
theorem Dkx.alloc (h : Dkx w d sz sB dB sc dc rs rd pv seen dur pend left) (o : Obj) : Dkx (w.alloc o) d sz sB dB sc dc rs rd pv seen dur pend left :=
  ⟨h.hd.alloc o, h.hs.alloc o, h.hu.alloc o, h.hp.alloc o, h.n1, h.n2, h.n3, h.n4, h.ls, h.lu, h.ok, h.one, h.big⟩
theorem Dkx.next {w' : World} (h : Dkx w d sz sB dB sc dc rs rd pv seen dur pend left) (hb : Below w.heap.size w w') : Dkx w' d sz sB dB sc dc rs rd pv seen dur pend left :=
  ⟨h.hd.below hb h.hd.lt, h.hs.below hb h.hs.lt, h.hu.below hb h.hu.lt, own_step h.hp (Step.of_below (F := []) hb (Nat.le_refl _)) (fun g _ => by simp), h.n1, h.n2, h.n3, h.n4, h.ls, h.lu, h.ok, h.one, h.big⟩
end
theorem size_walk (d sz : Nat) (F : List Nat) (seen dur : List Int) (pend : List Wr) (left : Int) (w : World) (h : Dk w F d sz seen dur pend left) : Calls Tryd.prog 64 #[.pointer (some ⟨d, 0, none⟩)] w fun e w' => e = .returned (.int .i64 (sz : Int)) ∧ w = w' := by
  obtain ⟨sB, dB, sc, dc, rs, rd, pv, -, hx⟩ := h
  have c0 := hx.c0
  clear hx
  go_enter Tryd.func64, Tryd.ntmps64
  go_wp2
  go_ret
  exact ⟨rfl, rfl⟩
/-- What a call on a disk leaves. -/
def DkPost (F : List Nat) (d sz : Nat) (seen dur : List Int) (pend : List Wr) (left : Int) (v : Value) (w : World) (e : Ending) (w' : World) : Prop :=
  e = .returned v ∧ ∃ F', Dk w' F' d sz seen dur pend left ∧ Step F w F' w'
end Go.Proofs.YtngpmilojfbpmaaDoor
