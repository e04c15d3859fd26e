/- The statements' first line on disks answers true. -/
import Derived.Test.YtpbilngjjlabiaaDskNw
namespace Go.Proofs.Ytpbilngjjlabiaa
open Go Go.RowKit
set_option maxRecDepth 100000

theorem calls_args {P : Program} {f : FuncId} {args args' : Array Value} {w : World} {R : Ending → World → Prop} (h : args = args') (hc : Calls P f args' w R) : Calls P f args w R := by rw [h]; exact hc
/-- A block that is none of F. -/
structure Off (F : List Nat) (w : World) (k : Nat) (t : TypeId) (cs : List Value) : Prop where
  blk : Blk w k t cs
  off : k ∉ F
theorem Off.step {F F' : List Nat} {w w' : World} {k : Nat} {t : TypeId} {cs : List Value} (h : Off F w k t cs) (hs : Step F w F' w') : Off F' w' k t cs := ⟨hs.blk h.blk h.off, hs.off h.blk.lt h.off⟩
theorem Off.below {F : List Nat} {w w' : World} {k : Nat} {t : TypeId} {cs : List Value} (h : Off F w k t cs) (hb : Below w.heap.size w w') : Off F w' k t cs := h.step (Step.of_below hb (Nat.le_refl _))
theorem Step.belowF {B : Nat} {G G' : List Nat} {a w w' : World} (hs : Step G w G' w') (hb : Below B a w) (hG : ∀ k ∈ G, B ≤ k) (hB : B ≤ w.heap.size) : Below B a w' :=
  hb.trans ⟨hs.os, hs.tape, hs.output, hs.size, fun k hk => hs.block k (by omega) (fun hc => by have := hG k hc; omega)⟩
theorem Step.new {G : List Nat} {w w' : World} (hs : Step [] w G w') : ∀ k ∈ G, w.heap.size ≤ k := fun k hk => by
  rcases hs.fresh k hk with h | h
  · simp at h
  · exact h
/-- What stands behind some calls on one disk. -/
structure Lv (F : List Nat) (d sz : Nat) (seen dur : List Int) (pend : List Wr) (left : Int) (w0 w : World) : Prop where
  dk : Dk w F d sz seen dur pend left
  st : Step [] w0 F w
theorem Lv.step {F F' : List Nat} {d sz : Nat} {seen dur seen' dur' : List Int} {pend pend' : List Wr} {left left' : Int} {w0 w w' : World} (h : Lv F d sz seen dur pend left w0 w) (hd : Dk w' F' d sz seen' dur' pend' left') (hs : Step F w F' w') : Lv F' d sz seen' dur' pend' left' w0 w' := ⟨hd, h.st.trans hs⟩
theorem Lv.below {F : List Nat} {d sz : Nat} {seen dur : List Int} {pend : List Wr} {left : Int} {w0 w w' : World} (h : Lv F d sz seen dur pend left w0 w) (hb : Below w.heap.size w w') : Lv F d sz seen dur pend left w0 w' := ⟨h.dk.below hb, h.st.trans (Step.of_below hb (Nat.le_refl _))⟩
def bA : List Int := 1 :: 2 :: 3 :: List.replicate 61 0
def b7 : List Int := 7 :: 7 :: 7 :: 7 :: List.replicate 60 0
def b773 : List Int := 7 :: 7 :: 3 :: List.replicate 61 0
def pk : List Int := [130, 0]
def sAa : List Int := putB (zeros 128) 0 bA
def dAa : List Int := applyK (zeros 128) [(0, bA)] 1
def sAb : List Int := putB (putB sAa 0 b7) 1 bA
def pAb : List Wr := [(0, b7), (1, bA)]
def dAc : List Int := crashK dAa pAb pk 2
def sAc : List Int := seenK sAb dAc pAb 2
theorem getAc0 : getB sAc 0 = b773 := by decide +kernel
theorem getAc1 : getB sAc 1 = zB := by decide +kernel
theorem sAc_length : sAc.length = 128 := by decide +kernel
theorem keptAc : keptK pk 2 = 1 := by decide +kernel
theorem pk_bytes : isBytes pk := by unfold isBytes pk; decide
theorem guardBlock : Try.prog.eqGuardType Try.prog.depth 33 = false := by kernel_rfl
theorem sizeByte' : (Try.prog.info? 5).map (·.size) = some 1 := by kernel_rfl
set_option maxHeartbeats 4000000 in
theorem dalive_walk (w : World) : Calls Try.prog 4 #[] w fun e w' => e = .returned (.bool true) ∧ Below w.heap.size w w' := by
  have IA : Hid ((Try.prog.info? 33).map (·.size) = some (ints .u8 bA).length) := infoBlk bA rfl
  have IX : Hid ((Try.prog.info? 33).map (·.size) = some (ints .u8 b773).length) := infoBlk b773 rfl
  have IZ : Hid ((Try.prog.info? 33).map (·.size) = some (ints .u8 zB).length) := infoBlk zB rfl
  have IA' : Hid ((Try.prog.info? 33).map (·.size) = some (ints .u8 bA).toArray.size) := infoBlk bA rfl
  go_enter Try.func4, Try.ntmps4
  go_wp2_with fail
  refine (new_yes 2 (by decide) (by decide) _).mono ?_
  rintro e w1 ⟨d, F1, rfl, hd1, hs1⟩
  have L1 : Hid (Lv F1 d 2 (zeros 128) (zeros 128) [] (-1) w w1) := ⟨hd1, hs1⟩
  clear hd1 hs1
  go_upto_region 4 with (fail)
  refine lin_begin (opsOf Try.f4 4) (by kernel_rfl) ?_
  refine lin_now 0 (.agg (ints .u8 bA).toArray) (some 27) (by kernel_rfl) (by kernel_rfl) (by kernel_rfl) ?_
  refine lin_value 1 (.pointer (some ⟨w1.heap.size, 0, none⟩)) (some 3) (w1.alloc (.cells (ints .u8 zB).toArray 33)) (by kernel_rfl) (by kernel_rfl) (exec_alloc 33 (by kernel_rfl) (.agg (ints .u8 zB).toArray) zeroBlk) ?_
  refine lin_store 2 ((w1.alloc (.cells (ints .u8 zB).toArray 33)).setCells w1.heap.size 0 (ints .u8 bA)) (by kernel_rfl) (by kernel_rfl) (exec_store_mid 33 (.tmp 3) (.tmp 27) (by kernel_rfl) w1.heap.size 0 (ints .u8 bA) (by kernel_rfl) (by kernel_rfl) ((Blk.new w1 33 (ints .u8 zB)).there 0 _ (by decide)) IA.out (ints_oneCell _ _)) ?_
  refine lin_done 3 (by kernel_rfl) ?_
  obtain ⟨hba, hbe, -⟩ := boxed w1 33 (ints .u8 zB) (ints .u8 bA) rfl
  have L2 := Lib.hid (L1.out.below hbe)
  have A2 : Hid (Off F1 _ w1.heap.size 33 (ints .u8 bA)) := ⟨hba, fun hc => by have := L1.out.dk.lt _ hc; omega⟩
  clear hba hbe L1
  generalize (w1.alloc (.cells (ints .u8 zB).toArray 33)).setCells w1.heap.size 0 (ints .u8 bA) = w2 at *
  generalize w1.heap.size = A at *
  generalize hact : Act.put _ none undef = act
  simp only [Act.put, List.setIfInBounds_toArray, List.set_cons_succ, List.set_cons_zero] at hact
  subst hact
  go_wp2_with (refine wpList_load_row rfl 33 _ rfl A rfl 33 (ints .u8 bA).toArray (0, 0) _ A2.out.blk Try.underlying33 rfl IA'.out ?_)
  refine (write_ok d 2 0 F1 (zeros 128) (zeros 128) [] (-1) bA _ L2.out.dk (by decide) rfl (by decide) (by decide) (by decide)).mono ?_
  rintro e w3 ⟨rfl, F3, hd, hs⟩
  have L3 : Hid (Lv F3 d 2 sAa (zeros 128) [(0, bA)] (-1) w w3) := L2.out.step hd hs
  have A3 := Lib.hid (A2.out.step hs)
  clear hd hs L2 A2
  go_wp2_with fail
  refine (flush_walk d 2 F3 sAa (zeros 128) [(0, bA)] (-1) _ L3.out.dk (by decide)).mono ?_
  rintro e w4 ⟨rfl, F4, hd, hs⟩
  have L4 : Hid (Lv F4 d 2 sAa dAa [] (-1) w w4) := L3.out.step hd hs
  have A4 := Lib.hid (A3.out.step hs)
  clear hd hs L3 A3
  go_wp2_with fail
  refine calls_args (args' := #[.pointer (some ⟨d, 0, none⟩), .int .i64 ((0 : Nat) : Int), .agg (ints .u8 b7).toArray]) (by kernel_rfl) ?_
  refine (write_ok d 2 0 F4 sAa dAa [] (-1) b7 _ L4.out.dk (by decide) rfl (by decide) (by decide) (by decide)).mono ?_
  rintro e w5 ⟨rfl, F5, hd, hs⟩
  have L5 : Hid (Lv F5 d 2 (putB sAa 0 b7) dAa [(0, b7)] (-1) w w5) := L4.out.step hd hs
  have A5 := Lib.hid (A4.out.step hs)
  clear hd hs L4 A4
  go_wp2_with (refine wpList_load_row rfl 33 _ rfl A rfl 33 (ints .u8 bA).toArray (0, 0) _ A5.out.blk Try.underlying33 rfl IA'.out ?_)
  refine (write_ok d 2 1 F5 (putB sAa 0 b7) dAa [(0, b7)] (-1) bA _ L5.out.dk (by decide) rfl (by decide) (by decide) (by decide)).mono ?_
  rintro e w6 ⟨rfl, F6, hd, hs⟩
  have L6 : Hid (Lv F6 d 2 sAb dAa pAb (-1) w w6) := L5.out.step hd hs
  have A6 := Lib.hid (A5.out.step hs)
  clear hd hs L5 A5
  go_wp2_with fail
  refine (pending_walk d 2 F6 sAb dAa pAb (-1) _ L6.out.dk).mono ?_
  rintro e w7 ⟨rfl, rfl⟩
  rw [show (pAb.length : Int) = 2 from rfl]
  go_wp2_with fail
  have BEp : Hid (Below w6.heap.size w6 (w6.alloc (.cells (ints .u8 pk).toArray 5))) := (Below.refl _ _).alloc (Nat.le_refl _) _
  refine calls_at (w' := w6.alloc (.cells (ints .u8 pk).toArray 5)) (by kernel_rfl) ?_
  have L7 := Lib.hid (L6.out.below BEp.out)
  have A7 := Lib.hid (A6.out.below BEp.out)
  have PK : Hid (BytesOff F6 (w6.alloc (.cells (ints .u8 pk).toArray 5)) (.slice (some ⟨w6.heap.size, 0, none⟩) 2 2) pk) :=
    ⟨some ⟨w6.heap.size, 0, none⟩, 2, rfl, Nat.le_refl _, fun _ => ⟨w6.heap.size, 0, rfl, fun hc => by have := L6.out.dk.lt _ hc; omega, by simp, (Blk.new w6 5 (ints .u8 pk)).whole⟩⟩
  clear L6 A6 BEp
  have HCW := Lib.hid (crash_walk d 2 F6 sAb dAa pAb (-1) (.slice (some ⟨w6.heap.size, 0, none⟩) 2 2) pk _ L7.out.dk (by decide) PK.out pk_bytes (by decide))
  rw [show pAb.length = 2 from rfl, keptAc] at HCW
  clear PK
  refine HCW.out.mono ?_
  rintro e w8 ⟨rfl, F8, hd, hs⟩
  have L8 : Hid (Lv F8 d 2 sAc dAc [] (-1) w w8) := L7.out.step hd hs
  have A8 := Lib.hid (A7.out.step hs)
  clear hd hs L7 A7 HCW
  go_upto_region 11 with (fail)
  refine lin_begin (opsOf Try.f4 11) (by kernel_rfl) ?_
  refine lin_now 0 (.pointer (some ⟨d, 0, none⟩)) (some 45) (by kernel_rfl) (by kernel_rfl) (by kernel_rfl) ?_
  have HRD := Lib.hid (read_yes d 2 0 F8 sAc dAc [] (-1) w8 L8.out.dk (by decide))
  rw [getAc0] at HRD
  refine lin_call 1 18 #[.pointer (some ⟨d, 0, none⟩), .int .i64 0] (some 46) _ (by kernel_rfl) (by kernel_rfl) (by kernel_rfl) HRD.out ?_
  rintro e w9a ⟨rfl, hbr⟩
  refine ⟨_, rfl, ?_⟩
  have L9a := Lib.hid (L8.out.below hbr)
  have A9a := Lib.hid (A8.out.below hbr)
  clear hbr L8 A8 HRD
  refine lin_now 2 (.tuple #[.agg (ints .u8 b773).toArray, .int .i64 0]) (some 44) (by kernel_rfl) (by kernel_rfl) (by kernel_rfl) ?_
  refine lin_now 3 (.agg (ints .u8 b773).toArray) (some 47) (by kernel_rfl) (by kernel_rfl) (by kernel_rfl) ?_
  refine lin_now 4 (.int .i64 0) (some 48) (by kernel_rfl) (by kernel_rfl) (by kernel_rfl) ?_
  refine lin_value 5 (.pointer (some ⟨w9a.heap.size, 0, none⟩)) (some 9) (w9a.alloc (.cells (ints .u8 zB).toArray 33)) (by kernel_rfl) (by kernel_rfl) (exec_alloc 33 (by kernel_rfl) (.agg (ints .u8 zB).toArray) zeroBlk) ?_
  refine lin_store 6 ((w9a.alloc (.cells (ints .u8 zB).toArray 33)).setCells w9a.heap.size 0 (ints .u8 b773)) (by kernel_rfl) (by kernel_rfl) (exec_store_mid 33 (.tmp 9) (.tmp 47) (by kernel_rfl) w9a.heap.size 0 (ints .u8 b773) (by kernel_rfl) (by kernel_rfl) ((Blk.new w9a 33 (ints .u8 zB)).there 0 _ (by decide)) IX.out (ints_oneCell _ _)) ?_
  refine lin_now 7 (.int .i64 0) (some 10) (by kernel_rfl) (by kernel_rfl) (by kernel_rfl) ?_
  refine lin_done 8 (by kernel_rfl) ?_
  obtain ⟨hba, hbe, -⟩ := boxed w9a 33 (ints .u8 zB) (ints .u8 b773) rfl
  have L9 := Lib.hid (L9a.out.below hbe)
  have A9 := Lib.hid (A9a.out.below hbe)
  have X9 : Hid (Off F8 _ w9a.heap.size 33 (ints .u8 b773)) := ⟨hba, fun hc => by have := L9a.out.dk.lt _ hc; omega⟩
  clear hba hbe L9a A9a
  generalize (w9a.alloc (.cells (ints .u8 zB).toArray 33)).setCells w9a.heap.size 0 (ints .u8 b773) = w9 at *
  generalize w9a.heap.size = B9 at *
  generalize hact : Act.put _ (some 10) (.int .i64 0) = act
  simp only [Act.put, List.setIfInBounds_toArray, List.set_cons_succ, List.set_cons_zero] at hact
  subst hact
  go_upto_region 12 with (fail)
  refine lin_begin (opsOf Try.f4 12) (by kernel_rfl) ?_
  refine lin_now 0 (.pointer (some ⟨d, 0, none⟩)) (some 50) (by kernel_rfl) (by kernel_rfl) (by kernel_rfl) ?_
  have HRD := Lib.hid (read_yes d 2 1 F8 sAc dAc [] (-1) w9 L9.out.dk (by decide))
  rw [getAc1] at HRD
  refine lin_call 1 18 #[.pointer (some ⟨d, 0, none⟩), .int .i64 1] (some 51) _ (by kernel_rfl) (by kernel_rfl) (by kernel_rfl) HRD.out ?_
  rintro e w10a ⟨rfl, hbr⟩
  refine ⟨_, rfl, ?_⟩
  have L10a := Lib.hid (L9.out.below hbr)
  have A10a := Lib.hid (A9.out.below hbr)
  have X10a := Lib.hid (X9.out.below hbr)
  clear hbr L9 A9 HRD X9
  refine lin_now 2 (.tuple #[.agg (ints .u8 zB).toArray, .int .i64 0]) (some 49) (by kernel_rfl) (by kernel_rfl) (by kernel_rfl) ?_
  refine lin_now 3 (.agg (ints .u8 zB).toArray) (some 52) (by kernel_rfl) (by kernel_rfl) (by kernel_rfl) ?_
  refine lin_now 4 (.int .i64 0) (some 53) (by kernel_rfl) (by kernel_rfl) (by kernel_rfl) ?_
  refine lin_value 5 (.pointer (some ⟨w10a.heap.size, 0, none⟩)) (some 11) (w10a.alloc (.cells (ints .u8 zB).toArray 33)) (by kernel_rfl) (by kernel_rfl) (exec_alloc 33 (by kernel_rfl) (.agg (ints .u8 zB).toArray) zeroBlk) ?_
  refine lin_store 6 ((w10a.alloc (.cells (ints .u8 zB).toArray 33)).setCells w10a.heap.size 0 (ints .u8 zB)) (by kernel_rfl) (by kernel_rfl) (exec_store_mid 33 (.tmp 11) (.tmp 52) (by kernel_rfl) w10a.heap.size 0 (ints .u8 zB) (by kernel_rfl) (by kernel_rfl) ((Blk.new w10a 33 (ints .u8 zB)).there 0 _ (by decide)) IZ.out (ints_oneCell _ _)) ?_
  refine lin_now 7 (.int .i64 0) (some 12) (by kernel_rfl) (by kernel_rfl) (by kernel_rfl) ?_
  refine lin_done 8 (by kernel_rfl) ?_
  obtain ⟨hba, hbe, -⟩ := boxed w10a 33 (ints .u8 zB) (ints .u8 zB) rfl
  have L10 := Lib.hid (L10a.out.below hbe)
  have A10 := Lib.hid (A10a.out.below hbe)
  have X10 := Lib.hid (X10a.out.below hbe)
  have Y10 : Hid (Off F8 _ w10a.heap.size 33 (ints .u8 zB)) := ⟨hba, fun hc => by have := L10a.out.dk.lt _ hc; omega⟩
  clear hba hbe L10a A10a X10a
  generalize (w10a.alloc (.cells (ints .u8 zB).toArray 33)).setCells w10a.heap.size 0 (ints .u8 zB) = w10 at *
  generalize w10a.heap.size = B10 at *
  generalize hact : Act.put _ (some 12) (.int .i64 0) = act
  simp only [Act.put, List.setIfInBounds_toArray, List.set_cons_succ, List.set_cons_zero] at hact
  subst hact
  go_upto_region 13 with (fail)
  refine lin_begin (opsOf Try.f4 13) (by kernel_rfl) ?_
  refine lin_now 0 (.pointer (some ⟨d, 0, none⟩)) (some 55) (by kernel_rfl) (by kernel_rfl) (by kernel_rfl) ?_
  have HRD := Lib.hid (read_no d 2 2 F8 sAc dAc [] (-1) w10 L10.out.dk (by decide))
  refine lin_call 1 18 #[.pointer (some ⟨d, 0, none⟩), .int .i64 2] (some 56) _ (by kernel_rfl) (by kernel_rfl) (by kernel_rfl) HRD.out ?_
  rintro e w11a ⟨rfl, hbr⟩
  refine ⟨_, rfl, ?_⟩
  have L11a := Lib.hid (L10.out.below hbr)
  have A11a := Lib.hid (A10.out.below hbr)
  have X11a := Lib.hid (X10.out.below hbr)
  have Y11a := Lib.hid (Y10.out.below hbr)
  clear hbr L10 A10 HRD X10 Y10
  refine lin_now 2 (.tuple #[.agg (ints .u8 zB).toArray, .int .i64 11]) (some 54) (by kernel_rfl) (by kernel_rfl) (by kernel_rfl) ?_
  refine lin_now 3 (.agg (ints .u8 zB).toArray) (some 57) (by kernel_rfl) (by kernel_rfl) (by kernel_rfl) ?_
  refine lin_now 4 (.int .i64 11) (some 58) (by kernel_rfl) (by kernel_rfl) (by kernel_rfl) ?_
  refine lin_value 5 (.pointer (some ⟨w11a.heap.size, 0, none⟩)) (some 13) (w11a.alloc (.cells (ints .u8 zB).toArray 33)) (by kernel_rfl) (by kernel_rfl) (exec_alloc 33 (by kernel_rfl) (.agg (ints .u8 zB).toArray) zeroBlk) ?_
  refine lin_store 6 ((w11a.alloc (.cells (ints .u8 zB).toArray 33)).setCells w11a.heap.size 0 (ints .u8 zB)) (by kernel_rfl) (by kernel_rfl) (exec_store_mid 33 (.tmp 13) (.tmp 57) (by kernel_rfl) w11a.heap.size 0 (ints .u8 zB) (by kernel_rfl) (by kernel_rfl) ((Blk.new w11a 33 (ints .u8 zB)).there 0 _ (by decide)) IZ.out (ints_oneCell _ _)) ?_
  refine lin_now 7 (.int .i64 11) (some 14) (by kernel_rfl) (by kernel_rfl) (by kernel_rfl) ?_
  refine lin_done 8 (by kernel_rfl) ?_
  obtain ⟨hba, hbe, -⟩ := boxed w11a 33 (ints .u8 zB) (ints .u8 zB) rfl
  have L11 := Lib.hid (L11a.out.below hbe)
  have A11 := Lib.hid (A11a.out.below hbe)
  have X11 := Lib.hid (X11a.out.below hbe)
  have Y11 := Lib.hid (Y11a.out.below hbe)
  clear hba hbe L11a A11a X11a Y11a
  generalize (w11a.alloc (.cells (ints .u8 zB).toArray 33)).setCells w11a.heap.size 0 (ints .u8 zB) = w11 at *
  generalize w11a.heap.size = B11 at *
  generalize hact : Act.put _ (some 14) (.int .i64 11) = act
  simp only [Act.put, List.setIfInBounds_toArray, List.set_cons_succ, List.set_cons_zero] at hact
  subst hact
  go_wp2_with fail
  refine (limit_walk d 2 F8 sAc dAc [] (-1) 0 _ L11.out.dk).mono ?_
  rintro e w12 ⟨rfl, F12, hd, hs⟩
  have L12 : Hid (Lv F12 d 2 sAc dAc [] 0 w w12) := L11.out.step hd hs
  have A12 := Lib.hid (A11.out.step hs)
  have X12 := Lib.hid (X11.out.step hs)
  have Y12 := Lib.hid (Y11.out.step hs)
  clear X11 Y11
  clear hd hs L11 A11
  go_wp2_with (refine wpList_load_row rfl 33 _ rfl A rfl 33 (ints .u8 bA).toArray (0, 0) _ A12.out.blk Try.underlying33 rfl IA'.out ?_)
  refine (write_full d 2 0 F12 sAc dAc [] bA _ L12.out.dk (by decide)).mono ?_
  rintro e w13 ⟨rfl, F13, hd, hs⟩
  have L13 : Hid (Lv F13 d 2 sAc dAc [] 0 w w13) := L12.out.step hd hs
  have A13 := Lib.hid (A12.out.step hs)
  have X13 := Lib.hid (X12.out.step hs)
  have Y13 := Lib.hid (Y12.out.step hs)
  clear X12 Y12
  clear hd hs L12 A12
  go_wp2_with fail
  refine (twin_walk d 2 F13 sAc dAc [] 0 _ L13.out.dk).mono ?_
  rintro e w14 ⟨t, G, rfl, hdt, hst⟩
  have L14 := Lib.hid (L13.out.below hst.below)
  have A14 := Lib.hid (A13.out.below hst.below)
  have X14 := Lib.hid (X13.out.below hst.below)
  have Y14 := Lib.hid (Y13.out.below hst.below)
  have T14 := Lib.hid hdt
  have GN : Hid (∀ k ∈ G, w13.heap.size ≤ k) := hst.new
  have FL : Hid (∀ k ∈ F13, k < w13.heap.size) := L13.out.dk.lt
  have AL : Hid (A < w13.heap.size) := A13.out.blk.lt
  have hw13 : w.heap.size ≤ w13.heap.size := L13.out.st.size
  clear hdt hst L13 A13 X13 Y13
  go_upto_region 19 with (fail)
  refine lin_begin (opsOf Try.f4 19) (by kernel_rfl) ?_
  refine lin_now 0 (.int .i64 0) (some 68) (by kernel_rfl) (by kernel_rfl) (by kernel_rfl) ?_
  refine lin_now 1 (.bool true) (some 69) (by kernel_rfl) (by kernel_rfl) (by kernel_rfl) ?_
  refine lin_now 2 (.bool true) (some 70) (by kernel_rfl) (by kernel_rfl) (by kernel_rfl) ?_
  refine lin_now 3 (.int .i64 0) (some 71) (by kernel_rfl) (by kernel_rfl) (by kernel_rfl) ?_
  refine lin_now 4 (.bool true) (some 72) (by kernel_rfl) (by kernel_rfl) (by kernel_rfl) ?_
  refine lin_now 5 (.bool true) (some 73) (by kernel_rfl) (by kernel_rfl) (by kernel_rfl) ?_
  refine lin_now 6 (.bool true) (some 74) (by kernel_rfl) (by kernel_rfl) (by kernel_rfl) ?_
  refine lin_now 7 (.int .i64 0) (some 75) (by kernel_rfl) (by kernel_rfl) (by kernel_rfl) ?_
  refine lin_now 8 (.bool true) (some 76) (by kernel_rfl) (by kernel_rfl) (by kernel_rfl) ?_
  refine lin_now 9 (.bool true) (some 77) (by kernel_rfl) (by kernel_rfl) (by kernel_rfl) ?_
  refine lin_now 10 (.bool true) (some 78) (by kernel_rfl) (by kernel_rfl) (by kernel_rfl) ?_
  refine lin_now 11 (.int .i64 0) (some 79) (by kernel_rfl) (by kernel_rfl) (by kernel_rfl) ?_
  refine lin_now 12 (.bool true) (some 80) (by kernel_rfl) (by kernel_rfl) (by kernel_rfl) ?_
  refine lin_now 13 (.bool true) (some 81) (by kernel_rfl) (by kernel_rfl) (by kernel_rfl) ?_
  refine lin_now 14 (.bool true) (some 82) (by kernel_rfl) (by kernel_rfl) (by kernel_rfl) ?_
  refine lin_now 15 (.int .i64 0) (some 83) (by kernel_rfl) (by kernel_rfl) (by kernel_rfl) ?_
  refine lin_now 16 (.bool true) (some 84) (by kernel_rfl) (by kernel_rfl) (by kernel_rfl) ?_
  refine lin_now 17 (.bool true) (some 85) (by kernel_rfl) (by kernel_rfl) (by kernel_rfl) ?_
  refine lin_now 18 (.bool true) (some 86) (by kernel_rfl) (by kernel_rfl) (by kernel_rfl) ?_
  refine lin_now 19 (.int .i64 11) (some 87) (by kernel_rfl) (by kernel_rfl) (by kernel_rfl) ?_
  refine lin_now 20 (.bool true) (some 88) (by kernel_rfl) (by kernel_rfl) (by kernel_rfl) ?_
  refine lin_now 21 (.bool true) (some 89) (by kernel_rfl) (by kernel_rfl) (by kernel_rfl) ?_
  refine lin_now 22 (.bool true) (some 90) (by kernel_rfl) (by kernel_rfl) (by kernel_rfl) ?_
  refine lin_now 23 (.int .i64 15) (some 91) (by kernel_rfl) (by kernel_rfl) (by kernel_rfl) ?_
  refine lin_now 24 (.bool true) (some 92) (by kernel_rfl) (by kernel_rfl) (by kernel_rfl) ?_
  refine lin_now 25 (.bool true) (some 93) (by kernel_rfl) (by kernel_rfl) (by kernel_rfl) ?_
  refine lin_now 26 (.bool true) (some 94) (by kernel_rfl) (by kernel_rfl) (by kernel_rfl) ?_
  refine lin_now 27 (.int .i64 2) (some 95) (by kernel_rfl) (by kernel_rfl) (by kernel_rfl) ?_
  refine lin_now 28 (.bool true) (some 96) (by kernel_rfl) (by kernel_rfl) (by kernel_rfl) ?_
  refine lin_now 29 (.bool true) (some 97) (by kernel_rfl) (by kernel_rfl) (by kernel_rfl) ?_
  refine lin_now 30 (.bool true) (some 98) (by kernel_rfl) (by kernel_rfl) (by kernel_rfl) ?_
  refine lin_now 31 (.int .i64 1) (some 99) (by kernel_rfl) (by kernel_rfl) (by kernel_rfl) ?_
  refine lin_now 32 (.bool true) (some 100) (by kernel_rfl) (by kernel_rfl) (by kernel_rfl) ?_
  refine lin_now 33 (.bool true) (some 101) (by kernel_rfl) (by kernel_rfl) (by kernel_rfl) ?_
  refine lin_now 34 (.bool true) (some 102) (by kernel_rfl) (by kernel_rfl) (by kernel_rfl) ?_
  refine lin_now 35 (.agg (ints .u8 b773).toArray) (some 103) (by kernel_rfl) (by kernel_rfl) (exec_load_mid 33 (.tmp 9) (by kernel_rfl) B9 0 (by kernel_rfl) (ints .u8 b773) _ X14.out.blk.whole Try.underlying33 rfl IX.out) ?_
  refine lin_now 36 (.agg (ints .u8 b773).toArray) (some 104) (by kernel_rfl) (by kernel_rfl) (by kernel_rfl) ?_
  refine lin_now 37 (.bool (decide (b773 = b773))) (some 105) (by kernel_rfl) (by kernel_rfl) (exec_eql _ (.tmp 103) (.tmp 104) 33 (by kernel_rfl) Try.underlying33 Try.underlying5 sizeByte' guardBlock b773 b773 rfl rfl (by kernel_rfl) (by kernel_rfl)) ?_
  rw [show decide (b773 = b773) = true from decide_eq_true rfl]
  refine lin_now 38 (.bool true) (some 106) (by kernel_rfl) (by kernel_rfl) (by kernel_rfl) ?_
  refine lin_now 39 (.bool true) (some 107) (by kernel_rfl) (by kernel_rfl) (by kernel_rfl) ?_
  refine lin_now 40 (.agg (ints .u8 zB).toArray) (some 108) (by kernel_rfl) (by kernel_rfl) (exec_load_mid 33 (.tmp 11) (by kernel_rfl) B10 0 (by kernel_rfl) (ints .u8 zB) _ Y14.out.blk.whole Try.underlying33 rfl IZ.out) ?_
  refine lin_now 41 (.agg (ints .u8 zB).toArray) (some 109) (by kernel_rfl) (by kernel_rfl) (by kernel_rfl) ?_
  refine lin_now 42 (.bool (decide (zB = zB))) (some 110) (by kernel_rfl) (by kernel_rfl) (exec_eql _ (.tmp 108) (.tmp 109) 33 (by kernel_rfl) Try.underlying33 Try.underlying5 sizeByte' guardBlock zB zB rfl rfl (by kernel_rfl) (by kernel_rfl)) ?_
  rw [show decide (zB = zB) = true from decide_eq_true rfl]
  refine lin_now 43 (.bool true) (some 111) (by kernel_rfl) (by kernel_rfl) (by kernel_rfl) ?_
  refine lin_now 44 (.bool true) (some 112) (by kernel_rfl) (by kernel_rfl) (by kernel_rfl) ?_
  refine lin_now 45 (.pointer (some ⟨d, 0, none⟩)) (some 113) (by kernel_rfl) (by kernel_rfl) (by kernel_rfl) ?_
  refine lin_call 46 22 #[.pointer (some ⟨d, 0, none⟩)] (some 114) _ (by kernel_rfl) (by kernel_rfl) (by kernel_rfl) (image_walk d 2 F13 sAc dAc [] 0 _ L14.out.dk) ?_
  rintro e w15 ⟨iv, rfl, hiv, hb15⟩
  obtain ⟨ia, ic, hie, -⟩ := owns_bytes hiv
  rw [sAc_length] at hie
  subst hie
  refine ⟨_, rfl, ?_⟩
  have L15 := Lib.hid (L14.out.below hb15)
  have A15 := Lib.hid (A14.out.below hb15)
  have T15 := Lib.hid (T14.out.below hb15)
  have hw14 := L14.out.st.size
  clear hb15 hiv L14 A14 T14 X14 Y14
  refine lin_now 47 (.int .i64 128) (some 115) (by kernel_rfl) (by kernel_rfl) (by kernel_rfl) ?_
  refine lin_now 48 (.bool true) (some 116) (by kernel_rfl) (by kernel_rfl) (by kernel_rfl) ?_
  refine lin_now 49 (.bool true) (some 117) (by kernel_rfl) (by kernel_rfl) (by kernel_rfl) ?_
  refine lin_now 50 (.bool true) (some 118) (by kernel_rfl) (by kernel_rfl) (by kernel_rfl) ?_
  refine lin_now 51 (.pointer (some ⟨t, 0, none⟩)) (some 119) (by kernel_rfl) (by kernel_rfl) (by kernel_rfl) ?_
  refine lin_now 52 (.agg (ints .u8 bA).toArray) (some 120) (by kernel_rfl) (by kernel_rfl) (exec_load_mid 33 (.tmp 3) (by kernel_rfl) A 0 (by kernel_rfl) (ints .u8 bA) _ A15.out.blk.whole Try.underlying33 rfl IA.out) ?_
  refine lin_call 53 8 #[.pointer (some ⟨t, 0, none⟩), .int .i64 0, .agg (ints .u8 bA).toArray] (some 121) _ (by kernel_rfl) (by kernel_rfl) (by kernel_rfl) (write_ok t 2 0 G sAc sAc [] (-1) bA _ T15.out (by decide) rfl (by decide) (by decide) (by decide)) ?_
  rintro e w16 ⟨rfl, G', hdt, hst⟩
  refine ⟨_, rfl, ?_⟩
  have D16 := Lib.hid (L15.out.dk.step hst (fun k hk hc => by have := FL.out k hk; have := GN.out k hc; omega))
  have BEL : Hid (Below w.heap.size w w16) := hst.belowF L15.out.st.below (fun k hk => by have := GN.out k hk; omega) L15.out.st.size
  clear hdt hst L15 A15 T15
  refine lin_now 54 (.bool true) (some 122) (by kernel_rfl) (by kernel_rfl) (by kernel_rfl) ?_
  refine lin_now 55 (.bool true) (some 123) (by kernel_rfl) (by kernel_rfl) (by kernel_rfl) ?_
  refine lin_now 56 (.bool true) (some 124) (by kernel_rfl) (by kernel_rfl) (by kernel_rfl) ?_
  refine lin_now 57 (.pointer (some ⟨d, 0, none⟩)) (some 125) (by kernel_rfl) (by kernel_rfl) (by kernel_rfl) ?_
  refine lin_call 58 21 #[.pointer (some ⟨d, 0, none⟩)] (some 126) _ (by kernel_rfl) (by kernel_rfl) (by kernel_rfl) (size_walk d 2 F13 sAc dAc [] 0 _ D16.out) ?_
  rintro e w17 ⟨rfl, rfl⟩
  refine ⟨_, rfl, ?_⟩
  refine lin_now 59 (.bool true) (some 127) (by kernel_rfl) (by kernel_rfl) (by kernel_rfl) ?_
  refine lin_now 60 (.bool true) (some 128) (by kernel_rfl) (by kernel_rfl) (by kernel_rfl) ?_
  refine lin_now 61 (.bool true) (some 0) (by kernel_rfl) (by kernel_rfl) (by kernel_rfl) ?_
  refine lin_done 62 (by kernel_rfl) ?_
  clear D16
  generalize hact : Act.put _ (some 0) (.bool true) = act
  have h0 : act.tmps.getD 0 undef = .bool true := by rw [← hact]; kernel_rfl
  have hd : act.defers = [] := by rw [← hact]; kernel_rfl
  clear hact
  go_wp2
  refine bodyPost_ret (v := .bool true) ?_ hd ⟨rfl, BEL.out⟩
  rw [results_tmp Try.results4, h0]
end Go.Proofs.Ytpbilngjjlabiaa
