/- The library's SortFunc over twelve digests or fewer, and its Clone. -/
import Derived.Test.YtoeilaedpibboaaDoorTagIns
import Derived.Test.YtoeilaedpibboaaDoorShaAlive
namespace Go.Proofs.YtoeilaedpibboaaDoor
open Go.RowKit
set_option maxRecDepth 100000

def SomeLen (w : World) (e : Ending) (w' : World) : Prop := ∃ L : Int, e = .returned (.int .i64 L) ∧ w = w'
theorem len64_small (n : Nat) (h : n ≤ 12) (w : World) : Calls Tryd.prog 57 #[.int .u64 (n : Int)] w (SomeLen w) := by
  have : n = 0 ∨ n = 1 ∨ n = 2 ∨ n = 3 ∨ n = 4 ∨ n = 5 ∨ n = 6 ∨ n = 7 ∨ n = 8 ∨ n = 9 ∨ n = 10 ∨ n = 11 ∨ n = 12 := by omega
  clear h
  rcases this with rfl | rfl | rfl | rfl | rfl | rfl | rfl | rfl | rfl | rfl | rfl | rfl | rfl
  all_goals
    go_enter Tryd.func57, Tryd.ntmps57
    go_wp2
    go_ret
    exact ⟨_, rfl, rfl⟩
theorem len_small (n : Nat) (h : n ≤ 12) (w : World) : Calls Tryd.prog 40 #[.int .u64 (n : Int)] w (SomeLen w) := by
  go_enter Tryd.func40, Tryd.ntmps40
  go_wp2_with fail
  refine (len64_small n h _).mono ?_
  rintro e w' ⟨L, rfl, rfl⟩
  go_wp2
  go_ret
  exact ⟨L, rfl, rfl⟩
set_option maxHeartbeats 1000000 in
theorem pdqsort_small (D n cap : Nat) (ds : List (List Int)) (rest : List Value) (L : Int) (hn : ds.length = n) (hok : okD ds) (hn' : n ≤ 12) (w : World) (hD : Dg w D 24 ds rest) :
    Calls Tryd.prog 39 #[.slice (some ⟨D, 0, none⟩) n cap, .int .i64 0, .int .i64 (n : Int), .int .i64 L, cmpV] w fun e w' => e = .returned (.tuple #[]) ∧ Sg D (isortTo ds (n - 1)) rest w w' := by
  have HD := Lib.hid hD
  have HOK := Lib.hid hok
  have HN := Lib.hid hn
  clear hD hok hn
  go_enter Tryd.func39, Tryd.ntmps39
  go_wp2
  go_loopw [1, 2, 3, 10, 11] (fun a b l p q wr => a = .int .i64 0 ∧ b = .int .i64 (n : Int) ∧ wr = w) (fun _ _ _ _ _ _ => 0)
  case atStart => exact ⟨rfl, rfl, rfl⟩
  case round =>
    obtain ⟨rfl, rfl, rfl⟩ := hrel
    have q1 : (n : Int) ≤ 12 := by omega
    go_wp2_with fail
    refine (insort_walk D n cap ds rest HN.out HOK.out (by omega) _ HD.out).mono ?_
    rintro e w1 ⟨rfl, hs⟩
    have HS := Lib.hid hs
    clear hs
    go_wp2
    refine bodyPost_ret (results_none rfl _ _ _) rfl ?_
    exact ⟨rfl, HS.out⟩
theorem sortfunc_small (D n cap : Nat) (ds : List (List Int)) (rest : List Value) (hn : ds.length = n) (hok : okD ds) (hn' : n ≤ 12) (w : World) (hD : Dg w D 24 ds rest) :
    Calls Tryd.prog 28 #[.slice (some ⟨D, 0, none⟩) n cap, cmpV] w fun e w' => e = .returned (.tuple #[]) ∧ Sg D (isortTo ds (n - 1)) rest w w' := by
  have HD := Lib.hid hD
  have HOK := Lib.hid hok
  have HN := Lib.hid hn
  clear hD hok hn
  go_enter Tryd.func28, Tryd.ntmps28
  go_wp2_with fail
  refine (len_small n hn' _).mono ?_
  rintro e w1 ⟨L, rfl, rfl⟩
  go_wp2_with fail
  refine (pdqsort_small D n cap ds rest L HN.out HOK.out hn' _ HD.out).mono ?_
  rintro e w1 ⟨rfl, hs⟩
  have HS := Lib.hid hs
  clear hs
  go_wp2
  go_end0
  exact ⟨rfl, HS.out⟩

/-- The value v is a slice of just these digests. -/
def DigsIn (w : World) (v : Value) (ds : List (List Int)) : Prop :=
  ∃ a cap, v = .slice a ds.length cap ∧ (0 < ds.length → ∃ pb po, a = some ⟨pb, po, none⟩ ∧ pb < w.heap.size ∧ w.rangeAt pb po (ints .u8 ds.flatten))
theorem infoDig3 : (Tryd.prog.info? 24).map (fun i => (i.zero, i.size, i.bytes)) = some (some (.agg (ints .u8 (List.replicate 32 0)).toArray), 32, 32) := by kernel_rfl
/-- A slice of digests in new memory. -/
def DigNew (ds : List (List Int)) (w : World) (e : Ending) (w' : World) : Prop := ∃ D cap rest, e = .returned (.slice (some ⟨D, 0, none⟩) ds.length cap) ∧ w.heap.size ≤ D ∧ ds.length ≤ cap ∧ Dg w' D 24 ds rest ∧ Below w.heap.size w w'
theorem sclone_walk (u : Value) (ds : List (List Int)) (w : World) (hu : DigsIn w u ds) (h0 : 0 < ds.length) (hl : ds.length ≤ 1000) (hok : okD ds) : Calls Tryd.prog 27 #[u] w (DigNew ds w) := by
  obtain ⟨a, c, rfl, hr⟩ := hu
  obtain ⟨pb, po, rfl, hp, hr1⟩ := hr h0
  obtain ⟨i0, hi, hz0, hz1, hz2⟩ := info_parts infoDig3
  have HR : Hid ((w.alloc (.cells #[] 24)).rangeAt pb po (ints .u8 ds.flatten)) := fun j v hv => by
    rw [((Below.refl w.heap.size w).alloc (Nat.le_refl _) (.cells #[] 24)).cell (p := ⟨pb, po + j, none⟩) hp]; exact hr1 j v hv
  have HFL : Hid ((ints .u8 ds.flatten).length = ds.length * 32) := by unfold Hid; rw [ints_length, flat32_length hok.a]; omega
  have HI := Lib.hid hi
  have HZ0 := Lib.hid hz0
  have HZ1 := Lib.hid hz1
  have HZ2 := Lib.hid hz2
  have HOE : Hid ((w.alloc (.cells #[] 24)).ownsRow w.heap.size 24 32 (.slice (some ⟨w.heap.size, 0, none⟩) 0 0) 0 []) :=
    ⟨rfl, Or.inr ⟨w.heap.size, 0, #[], rfl, Nat.le_refl _, heap_alloc_last w _, Nat.le_refl _, by unfold maxLen; omega, rfl, rfl⟩⟩
  obtain ⟨n, hn⟩ : ∃ n, Hid (n = ds.length) := ⟨_, rfl⟩
  rw [← hn.out] at HFL hl h0 ⊢
  clear hr hr1 hi hz0 hz1 hz2 hok
  have hnil : ∀ w, (binOp BinOp.eql 22 (.slice (some ⟨pb, po, none⟩) n c) (.slice none 0 0)).run Tryd.prog w = .ok (.bool false) w := fun w => by kernel_rfl
  go_enter Tryd.func27, Tryd.ntmps27
  go_wp2_with (with_reducible refine wpList_append_own _ (o := ⟨some 7, _, _, _, _, _⟩) ?a1 (.tmp 5) (.tmp 6) 22 ?a2 w.heap.size 24 i0 _ 32 32 Tryd.underlying22 HI.out HZ0.out HZ1.out HZ2.out ?a3 ?a4 (.slice (some ⟨w.heap.size, 0, none⟩) 0 0) 0 [] ?a5 HOE.out ⟨pb, po, none⟩ n c (ints .u8 ds.flatten) ?a6 HFL.out ?a7 (ints_one _ _) ?a8 ?a9 ?a10 ?_)
  case a1 => rfl
  case a2 => rfl
  case a3 => rfl
  case a4 => decide
  all_goals try (case a5 => rfl)
  all_goals try (case a6 => rfl)
  case a7 => intro j v hv; rw [Addr.add_mid]; exact HR.out j v hv
  case a8 => unfold maxLen; omega
  case a9 => omega
  case a10 => simp
  intro v' w' h1 h2 h3
  have HB : Hid (Below w.heap.size w w') := ((Below.refl w.heap.size w).alloc (Nat.le_refl _) _).grown h2 (by simp) (fun k hk => by simp [Value.ownBlock] at hk; omega)
  obtain ⟨hle, hw⟩ := h1
  rcases hw with ⟨rfl, h0'⟩ | ⟨g, cap, cur, rfl, hb, hg, hc, hcm, hcs, ht⟩
  · exfalso; omega
  · have HD : Hid (Dg w' g 24 ds (cur.toList.drop (n * 32))) := by
      unfold Hid Dg Blk
      rw [hg]
      have e : (ints .u8 ds.flatten ++ cur.toList.drop (n * 32)).toArray = cur := by
        have h4 : ints .u8 ds.flatten = cur.toList.take (n * 32) := ht.symm
        rw [h4, List.take_append_drop]
      rw [e]
    have HG := Lib.hid hb
    have HC := Lib.hid hc
    clear h2 h3 hle hb hg hc hcm hcs ht
    go_wp2
    go_ret
    exact ⟨g, cap, _, by rw [hn.out]; rfl, HG.out, by rw [← hn.out]; exact HC.out, HD.out, HB.out⟩
end Go.Proofs.YtoeilaedpibboaaDoor
