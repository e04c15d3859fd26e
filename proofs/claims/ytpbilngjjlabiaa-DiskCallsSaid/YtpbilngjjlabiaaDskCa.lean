/- DiskCalls answers true where there is no disk, or one that it leaves out. -/
import Derived.Test.YtpbilngjjlabiaaDskPr
namespace Go.Proofs.Ytpbilngjjlabiaa
open Go Go.RowKit
set_option maxRecDepth 100000

set_option maxHeartbeats 2000000 in
theorem calls_out (n at' : Int) (v : Value) (cs : List Cl) (w : World) (hv : CallsIn w v cs) (hn : n < 1 ∨ 32 < n) :
    Calls Try.prog 3 #[.int .i64 n, v, .int .i64 at'] w fun e w' => e = .returned (.bool true) ∧ Below w.heap.size w w' := by
  obtain ⟨a, cap, rfl, hml, -⟩ := id hv
  have HV := Lib.hid hv
  obtain ⟨m, hm⟩ : ∃ m, Hid (cs.length = m) := ⟨_, rfl⟩
  rw [hm.out] at HV hml ⊢
  clear hv
  go_enter Try.func3, Try.ntmps3
  go_wp2_with fail
  refine (dalive_walk _).mono ?_
  rintro e w1 ⟨rfl, hb1⟩
  have BE1 := Lib.hid hb1
  clear hb1
  go_wp2_with fail
  refine (great_walk _ cs _ (HV.out.below BE1.out)).mono ?_
  rintro e w2 ⟨gb, rfl, hgb, rfl⟩
  have HG := Lib.hid hgb
  clear hgb
  cases gb with
  | true =>
    go_wp2
    go_ret
    exact ⟨rfl, BE1.out⟩
  | false =>
    have hm60 : m ≤ 60 := by have := (HG.out rfl).1; rw [hm.out] at this; exact this
    by_cases h1 : 32 < n
    · by_cases h2 : n ≤ 4096
      · go_wp2
        go_ret
        exact ⟨rfl, BE1.out⟩
      · go_wp2_with fail
        refine (new_no n (.inr (by omega)) _).mono ?_
        rintro e w3 ⟨rfl, rfl⟩
        go_wp2_with fail
        refine (rnew_no n (.inr (by omega)) _).mono ?_
        rintro e w4 ⟨rfl, rfl⟩
        go_wp2
        go_loopw [11] (fun i wr => i = .int .i64 0 ∧ Below w.heap.size w wr) (fun _ _ => 0)
        case atStart => exact ⟨rfl, BE1.out⟩
        case round =>
          obtain ⟨rfl, hbr⟩ := hrel
          have BR := Lib.hid hbr
          clear hbr
          by_cases h0 : 0 < m
          · have q1 : (0 : Int) < (m : Int) := by omega
            go_wp2
            go_ret
            exact ⟨rfl, BR.out⟩
          · have q1 : ¬ (0 : Int) < (m : Int) := by omega
            go_wp2
            go_ret
            exact ⟨rfl, BR.out⟩
    · go_wp2_with fail
      refine (new_no n (.inl (by omega)) _).mono ?_
      rintro e w3 ⟨rfl, rfl⟩
      go_wp2_with fail
      refine (rnew_no n (.inl (by omega)) _).mono ?_
      rintro e w4 ⟨rfl, rfl⟩
      go_wp2
      go_loopw [11] (fun i wr => i = .int .i64 0 ∧ Below w.heap.size w wr) (fun _ _ => 0)
      case atStart => exact ⟨rfl, BE1.out⟩
      case round =>
        obtain ⟨rfl, hbr⟩ := hrel
        have BR := Lib.hid hbr
        clear hbr
        by_cases h0 : 0 < m
        · have q1 : (0 : Int) < (m : Int) := by omega
          go_wp2
          go_ret
          exact ⟨rfl, BR.out⟩
        · have q1 : ¬ (0 : Int) < (m : Int) := by omega
          go_wp2
          go_ret
          exact ⟨rfl, BR.out⟩
end Go.Proofs.Ytpbilngjjlabiaa
