/- package tag's Sort over twelve digests or fewer of which at most the last two in order are one. -/
import Derived.Test.YtoeilaedpibboaaDoorTagCpt
namespace Go.Proofs.YtoeilaedpibboaaDoor
open Go.RowKit
set_option maxRecDepth 100000

theorem tsort_walk (u : Value) (ds : List (List Int)) (n j : Nat) (w : World) (hu : DigsIn w u ds) (hn : ds.length = n) (h0 : 1 ≤ n) (hl : n ≤ 12) (hok : okD ds) (hj1 : 1 ≤ j) (hjn : j ≤ n)
    (hdist : ∀ i, 1 ≤ i → i < j → (isortTo ds (n - 1)).getD i [] ≠ (isortTo ds (n - 1)).getD (i - 1) []) (hend : j = n ∨ (j + 1 = n ∧ (isortTo ds (n - 1)).getD j [] = (isortTo ds (n - 1)).getD (j - 1) [])) :
    Calls Tryd.prog 14 #[u] w (DigNew ((isortTo ds (n - 1)).take j) w) := by
  obtain ⟨a, c, rfl, -⟩ := id hu
  have HU := Lib.hid hu
  have HN := Lib.hid hn
  have HOK := Lib.hid hok
  have HDI := Lib.hid hdist
  have HE := Lib.hid hend
  clear hu hok hdist hend
  rw [hn]
  clear hn
  go_enter Tryd.func14, Tryd.ntmps14
  go_wp2_with fail
  have hcl := sclone_walk _ ds w HU.out (by rw [HN.out]; omega) (by rw [HN.out]; omega) HOK.out
  rw [HN.out] at hcl
  refine hcl.mono ?_
  rintro e w1 ⟨D, cap, rest, rfl, hD, hcap, hdg, hb1⟩
  rw [HN.out]
  rw [HN.out] at hcap
  have HDG := Lib.hid hdg
  have HB1 := Lib.hid hb1
  clear hdg hb1 hcl
  go_wp2_with fail
  refine (sortfunc_small D n cap ds rest HN.out HOK.out hl _ HDG.out).mono ?_
  rintro e w2 ⟨rfl, hs2⟩
  have HS2 := Lib.hid hs2
  have HB2 := Lib.hid (hs2.u.below HB1.out hD HB1.out.size)
  clear hs2
  go_wp2_with fail
  refine (scompact_walk D n cap j (isortTo ds (n - 1)) rest (by rw [isortTo_length, HN.out]) (HOK.out.isortTo _ (by rw [HN.out]; omega)) hj1 hjn (by omega) hcap HDI.out HE.out _ HS2.out.d).mono ?_
  rintro e w3 ⟨cap', rest', rfl, hcap3, hdg3, hu3⟩
  have HG3 := Lib.hid hdg3
  have HB3 := Lib.hid (hu3.below HB2.out hD HB2.out.size)
  clear hdg3 hu3
  obtain ⟨rl, hrl⟩ : ∃ rl, Hid (rl = (isortTo ds (n - 1)).take j) := ⟨_, rfl⟩
  rw [← hrl.out] at HG3 ⊢
  go_wp2
  go_ret
  exact ⟨D, cap', rest', by rw [hrl.out]; rfl, hD, hcap3, by rw [← hrl.out]; exact HG3.out, HB3.out⟩
end Go.Proofs.YtoeilaedpibboaaDoor
