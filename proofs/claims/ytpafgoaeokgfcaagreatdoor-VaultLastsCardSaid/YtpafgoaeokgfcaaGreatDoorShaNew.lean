/- New makes a hash of no bytes, Fork another hash of the same bytes, Len tells how many bytes there were; what was there stays as it was. -/
import Derived.Test.YtpafgoaeokgfcaaGreatDoorShaWrite
namespace Go.Proofs.YtpafgoaeokgfcaaGreatDoor
open Go.RowKit
set_option maxRecDepth 100000

theorem infoHash : (Tryz.prog.info? 143).map (·.size) = some 73 := by kernel_rfl
theorem zeroHash : (Tryz.prog.info? 143).map (fun i => (i.zero, i.size)) = some (some (.agg (hcells (List.replicate 8 0) (List.replicate 64 0) 0).toArray), 73) := by kernel_rfl
theorem run_build_hash (w : World) : (Instr.build 143 #[(0, .agg (ints .u32 Sha.iv).toArray)]).run Tryz.prog w = .ok (.agg (hcells Sha.iv (List.replicate 64 0) 0).toArray) w := by kernel_rfl

theorem first_walk (w : World) : Calls Tryz.prog 93 #[] w fun e w' => e = .returned (.agg (ints .u32 Sha.iv).toArray) ∧ Below w.heap.size w w' := by
  go_enter Tryz.func93, Tryz.ntmps93
  go_wp2_with (refine wpList_store_whole rfl 140 _ _ rfl w.heap.size (ints .u32 Sha.iv) rfl rfl 140 (ints .u32 (List.replicate 8 0)) (Blk.new2 _ _ _ _ _ rfl (by kernel_rfl)) rfl infoState (ints_oneCell _ _) ?_)
  intro w1 hb hup _
  refine wpList_nil ?_
  go_wp2
  have hbl := hup.below ((Below.refl w.heap.size w).alloc (Nat.le_refl _) _) (Nat.le_refl _) (by simp)
  refine bodyPost_ret (v := .agg (ints .u32 Sha.iv).toArray) ?_ rfl ⟨rfl, hbl⟩
  refine results_cell_row (g := w.heap.size) (t := 140) (cs := (ints .u32 Sha.iv).toArray) (fr := (0, 0)) Tryz.results93 _ _ _ ?_ ?_ Tryz.underlying140 rfl infoState
  · rfl
  · exact hb

/-- A new hash in new memory. -/
def NewHash (msg : List Int) (w : World) (e : Ending) (w' : World) : Prop := ∃ b, w.heap.size ≤ b ∧ e = .returned (.pointer (some ⟨b, 0, none⟩)) ∧ HashIs w' b msg ∧ Below w.heap.size w w'
theorem hash_nil {w : World} {b : Nat} (h : Blk w b 143 (hcells Sha.iv (List.replicate 64 0) 0)) : HashIs w b [] := ⟨List.replicate 64 0, by simp, by simp, h⟩

theorem new_walk (w : World) : Calls Tryz.prog 87 #[] w (NewHash [] w) := by
  go_enter Tryz.func87, Tryz.ntmps87
  go_wp2_with fail
  refine (first_walk _).mono ?_
  rintro e w1 ⟨rfl, hbel⟩
  have HB := Lib.hid hbel
  clear hbel
  go_wp2_with (with_reducible refine wpList_value (op := ⟨some 2, _, _, _, _, _⟩) ?a1 (.agg (hcells Sha.iv (List.replicate 64 0) 0).toArray) (w' := w1) ?a2 ?_)
  case a1 => rfl
  case a2 => kernel_rfl
  go_wp2
  go_ret
  exact ⟨w1.heap.size, HB.out.size, rfl, hash_nil (Blk.new _ _ _), HB.out.alloc HB.out.size _⟩
theorem fork_walk (b : Nat) (msg : List Int) (w : World) (hb : HashIs w b msg) : Calls Tryz.prog 95 #[.pointer (some ⟨b, 0, none⟩)] w (NewHash msg w) := by
  obtain ⟨buf, h1, h2, h3⟩ := hb
  have hz := (zero_of_info zeroHash).1
  have hlen : (hcells (Sha.stateOf msg) buf msg.length).length = 73 := hcells_length (Sha.stateOf_length _) h1
  obtain ⟨cs, hcs⟩ : ∃ cs, Hid (cs = hcells (Sha.stateOf msg) buf msg.length) := ⟨_, rfl⟩
  rw [← hcs.out] at h3 hlen
  have hone : Hid (cs.toArray.all (·.oneCell') = true) := by
    unfold Hid
    rw [hcs.out]
    exact all_oneCell_toArray fun v hv => by
      simp only [hcells, List.mem_append, List.mem_singleton] at hv
      rcases hv with (hv | hv) | rfl
      · exact ints_one _ _ v hv
      · exact ints_one _ _ v hv
      · rfl
  have hi : Hid ((Tryz.prog.info? 143).map (·.size) = some cs.length) := by unfold Hid; rw [hlen]; exact infoHash
  have hi' : Hid ((Tryz.prog.info? 143).map (·.size) = some cs.toArray.size) := by unfold Hid; rw [List.size_toArray, hlen]; exact infoHash
  have H3 := Lib.hid h3
  have HL : Hid (cs.length = (hcells (List.replicate 8 0) (List.replicate 64 0) 0).length) := by unfold Hid; rw [hlen]; rfl
  have H1 := Lib.hid h1
  have H2 := Lib.hid h2
  clear h1 h2 h3 hlen
  go_enter Tryz.func95, Tryz.ntmps95
  go_wp2_with (first
    | (refine wpList_load_row rfl 143 _ rfl b rfl 143 cs.toArray (0, 0) _ H3.out Tryz.underlying143 rfl hi'.out ?_)
    | (refine wpList_store_whole rfl 143 _ _ rfl w.heap.size cs rfl rfl 143 (hcells (List.replicate 8 0) (List.replicate 64 0) 0) (Blk.new2 _ _ _ _ _ rfl rfl) HL.out hi.out hone.out ?_))
  intro w1 hb hup _
  have HB := Lib.hid hb
  have HBL := Lib.hid (hup.below ((Below.refl w.heap.size w).alloc (Nat.le_refl _) _) (Nat.le_refl _) (by simp))
  clear hb hup
  go_wp2
  go_ret
  refine ⟨w.heap.size, Nat.le_refl _, rfl, ⟨buf, H1.out, H2.out, ?_⟩, HBL.out⟩
  rw [← hcs.out]
  exact HB.out
end Go.Proofs.YtpafgoaeokgfcaaGreatDoor
