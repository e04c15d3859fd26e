/- The reference's disk: New. -/
import Derived.Test.YtpbilngjjlabiaaDskRc
import Derived.Test.YtpbilngjjlabiaaDskRr
import Derived.Test.YtpbilngjjlabiaaDskRw
namespace Go.Proofs.Ytpbilngjjlabiaa
open Go Go.RowKit
set_option maxRecDepth 100000

theorem rnew_no (n : Int) (hn : n < 1 ∨ 4096 < n) (w : World) : Calls Try.prog 7 #[.int .i64 n] w fun e w' => e = .returned (.tuple #[.pointer none, .int .i64 11]) ∧ w = w' := by
  by_cases h : n < 1
  · go_enter Try.func7, Try.ntmps7
    go_wp2
    go_ret2
    exact ⟨rfl, rfl⟩
  · have h2 : 4096 < n := by omega
    go_enter Try.func7, Try.ntmps7
    go_wp2
    go_ret2
    exact ⟨rfl, rfl⟩
theorem made_zeros1 (L : Nat) : List.replicate L (.int .u8 0) = ints .u8 (zeros L) := by
  simp [ints, zeros]
set_option maxHeartbeats 1000000 in
theorem rnew_yes (n : Nat) (h0 : 1 ≤ n) (hn : n ≤ 4096) (w : World) : Calls Try.prog 7 #[.int .i64 (n : Int)] w fun e w' => ∃ r F, e = .returned (.tuple #[.pointer (some ⟨r, 0, none⟩), .int .i64 0]) ∧ Rk w' F r n (zeros (64 * n)) [] (-1) ∧ Step [] w F w' := by
  have q1 : ¬ ((n : Int) < 1) := by omega
  have q2 : ¬ ((4096 : Int) < (n : Int)) := by omega
  have HL : Hid ((64 : Int) * (n : Int) = ((64 * n : Nat) : Int)) := by unfold Hid; omega
  have hL1 : 64 * n ≤ 262144 := by omega
  go_enter Try.func7, Try.ntmps7
  go_wp2_with (refine wpList_make_blk _ rfl _ _ 34 rfl 5 (.int .u8 0) 1 Try.underlying34 infoByte rfl _ _ _ _ (64 * n) rfl rfl HL.out HL.out (by omega) (by omega) ?_)
  intro w1 hb1 hbe1 hsz1
  rw [made_zeros1] at hb1
  have B1 := Lib.hid hb1
  have BE1 := Lib.hid hbe1
  have S1 := Lib.hid hsz1
  clear hb1 hbe1 hsz1
  go_wp2
  go_ret2
  have hlt : w.heap.size < w1.heap.size := B1.out.lt
  have NB : Blk (w1.alloc (.cells #[.slice (some ⟨w.heap.size, 0, none⟩) (64 * n) (64 * n), .slice none 0 0, .int .i64 (-1)] 47)) w1.heap.size 47 (rcells (64 * n) w.heap.size (64 * n) (.slice none 0 0) (-1)) := Blk.new2 _ _ _ _ _ rfl rfl
  refine ⟨w1.heap.size, rfoot w1.heap.size w.heap.size (.slice none 0 0), rfl, ⟨w.heap.size, 64 * n, [], .slice none 0 0, rfl, ⟨NB, by rw [List.append_nil]; exact B1.out.alloc _, ⟨rfl, .inl ⟨rfl, rfl⟩⟩, by omega, (fun g hg => by cases hg), zeros_length _, Nat.le_refl _, (fun x hx => by simp at hx), h0, hn⟩⟩, ?_⟩
  have h1 := (Step.of_below (F := []) (BE1.out.alloc (by omega) (.cells #[.slice (some ⟨w.heap.size, 0, none⟩) (64 * n) (64 * n), .slice none 0 0, .int .i64 (-1)] 47)) (Nat.le_refl _))
  refine ⟨h1.os, h1.tape, h1.output, h1.size, h1.block, fun k hk => ?_⟩
  simp only [rfoot, Value.ownBlock, Option.toList_none, List.mem_cons, List.not_mem_nil, or_false] at hk
  rcases hk with rfl | rfl
  · exact .inr (by omega)
  · exact .inr (Nat.le_refl _)
end Go.Proofs.Ytpbilngjjlabiaa
