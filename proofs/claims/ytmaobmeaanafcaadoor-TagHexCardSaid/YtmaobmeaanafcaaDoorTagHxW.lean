/- TagHex answers true. -/
import Derived.Test.YtmaobmeaanafcaaDoorTagHxM
import Derived.Test.YtmaobmeaanafcaaDoorShaBlk
import Derived.Test.YtmaobmeaanafcaaDoorTagAlv
namespace Go.Proofs.YtmaobmeaanafcaaDoor
open Go Go.RowKit
set_option maxRecDepth 100000


structure Th (a b : List Int) (X : Nat) (w wr : World) : Prop where
  fa : Blk wr w.heap.size 24 (ints .u8 a)
  fb : Blk wr (w.heap.size + 1) 24 (ints .u8 b)
  fx : Blk wr X 24 (ints .u8 a)
  bel : Below w.heap.size w wr
theorem Th.next {a b : List Int} {X : Nat} {w w1 w2 : World} (h : Th a b X w w1) (hb : Below w1.heap.size w1 w2) : Th a b X w w2 :=
  ⟨h.fa.below hb h.fa.lt, h.fb.below hb h.fb.lt, h.fx.below hb h.fx.lt, h.bel.trans (hb.mono h.bel.size)⟩
set_option maxHeartbeats 2000000 in
theorem hexs_main (a b : List Int) (hla : a.length = 32) (hlb : b.length = 32) (hba : isBytes a) (hbb : isBytes b) (w : World) (hK : KW w) :
    Calls Tryd.prog 6 #[.agg (ints .u8 a).toArray, .agg (ints .u8 b).toArray] w fun e w' => e = .returned (.bool true) ∧ Below w.heap.size w w' := by
  have HLS := Lib.hid (hex_less a b hba hbb (by omega))
  have HGT := Lib.hid (hex_same a b hba hbb (by omega))
  have HEQ := Lib.hid (fun w => run_hex_eql a b hba hbb (by omega) w)
  have IA : Hid ((Tryd.prog.info? 24).map (·.size) = some (ints .u8 a).length) := infoD a hla
  have IB : Hid ((Tryd.prog.info? 24).map (·.size) = some (ints .u8 b).length) := infoD b hlb
  have IA' : Hid ((Tryd.prog.info? 24).map (·.size) = some (ints .u8 a).toArray.size) := infoD a hla
  have IB' : Hid ((Tryd.prog.info? 24).map (·.size) = some (ints .u8 b).toArray.size) := infoD b hlb
  have LL := Lib.hid (lenD a hla)
  obtain ⟨HD, HDE⟩ : ∃ d : Bool, Hid (decide (a = b) = d) := ⟨_, rfl⟩
  have LA := Lib.hid hla
  have LB := Lib.hid hlb
  have BA := Lib.hid hba
  have BB := Lib.hid hbb
  have HK := Lib.hid hK
  have A0 : Hid (Blk ((w.alloc (.cells (ints .u8 a).toArray 24)).alloc (.cells (ints .u8 b).toArray 24)) w.heap.size 24 (ints .u8 a)) := (Blk.new _ _ _).alloc _
  have B0 : Hid (Blk ((w.alloc (.cells (ints .u8 a).toArray 24)).alloc (.cells (ints .u8 b).toArray 24)) (w.heap.size + 1) 24 (ints .u8 b)) := Blk.new2 _ _ _ _ _ (by simp) rfl
  have BE0 : Hid (Below w.heap.size w ((w.alloc (.cells (ints .u8 a).toArray 24)).alloc (.cells (ints .u8 b).toArray 24))) := ((Below.refl _ _).alloc (Nat.le_refl _) _).alloc (by simp) _
  have KW0 := Lib.hid (HK.out.below BE0.out HK.out.lt)
  clear hla hlb hba hbb hK
  go_enter Tryd.func6, Tryd.ntmps6
  go_wp2_with fail
  refine (talive_walk _ KW0.out).mono ?_
  rintro e w1 ⟨rfl, hb1⟩
  have A1 := Lib.hid (A0.out.below hb1 A0.out.lt)
  have B1 := Lib.hid (B0.out.below hb1 B0.out.lt)
  have BE1 := Lib.hid (BE0.out.trans (hb1.mono BE0.out.size))
  clear hb1 A0 B0 BE0 KW0
  go_wp2_with (refine wpList_load_row rfl 24 _ rfl w.heap.size rfl 24 (ints .u8 a).toArray (0, 0) _ A1.out Tryd.underlying24 rfl IA'.out ?_)
  refine (hex_walk a LA.out BA.out _).mono ?_
  rintro e w2 ⟨rfl, hb2⟩
  have A2 := Lib.hid (A1.out.below hb2 A1.out.lt)
  have B2 := Lib.hid (B1.out.below hb2 B1.out.lt)
  have BE2 := Lib.hid (BE1.out.trans (hb2.mono BE1.out.size))
  clear hb2 A1 B1 BE1
  have HFH := Lib.hid (fun w => fromhex_hex a LA.out BA.out w)
  have HXB := Lib.hid (fun w => hex_walk b LB.out BB.out w)
  obtain ⟨sa, hsa⟩ : ∃ s, Hid (strOfNums (hexL a) = s) := ⟨_, rfl⟩
  obtain ⟨sb, hsb⟩ : ∃ s, Hid (strOfNums (hexL b) = s) := ⟨_, rfl⟩
  rw [hsa.out] at HLS HGT HEQ HFH ⊢
  rw [hsb.out] at HLS HGT HEQ HXB
  go_wp2_with (refine wpList_load_row rfl 24 _ rfl (w.heap.size + 1) rfl 24 (ints .u8 b).toArray (0, 0) _ B2.out Tryd.underlying24 rfl IB'.out ?_)
  refine (HXB.out _).mono ?_
  rintro e w3 ⟨rfl, hb3⟩
  have A3 := Lib.hid (A2.out.below hb3 A2.out.lt)
  have B3 := Lib.hid (B2.out.below hb3 B2.out.lt)
  have BE3 := Lib.hid (BE2.out.trans (hb3.mono BE2.out.size))
  clear hb3 A2 B2 BE2
  go_wp2_with fail
  refine (HFH.out _).mono ?_
  rintro e w4 ⟨rfl, hb4⟩
  have A4 := Lib.hid (A3.out.below hb4 A3.out.lt)
  have B4 := Lib.hid (B3.out.below hb4 B3.out.lt)
  have BE4 := Lib.hid (BE3.out.trans (hb4.mono BE3.out.size))
  clear hb4 A3 B3 BE3
  go_wp2_with (refine wpList_store_whole rfl 24 _ _ rfl w4.heap.size (ints .u8 a) rfl rfl 24 (ints .u8 (List.replicate 32 0)) (Blk.new2 _ _ _ _ _ rfl (by kernel_rfl)) LL.out IA.out (ints_oneCell _ _) ?_)
  intro w6 hb6 hup6 hsz6
  have hA4 := A4.out.lt
  have hB4 := B4.out.lt
  have hw4 := BE4.out.size
  have TH : Hid (Th a b w4.heap.size w w6) := ⟨hup6.blk (A4.out.alloc _) (by omega), hup6.blk (B4.out.alloc _) (by omega), hb6, hup6.below (BE4.out.alloc BE4.out.size _) BE4.out.size (by simp; omega)⟩
  obtain ⟨X, hX⟩ : ∃ X, X = w4.heap.size := ⟨_, rfl⟩
  rw [← hX] at TH ⊢
  clear hb6 hup6 hsz6 hX A4 B4 BE4 hA4 hB4 hw4 HFH HXB
  have hls := HLS.out
  have hgt := HGT.out
  rcases cmpD_range a b with hc | hc | hc
  · have HC := Lib.hid hc
    rw [hc] at hls hgt
    rw [show decide (((-1) : Int) = -1) = true by decide] at hls
    rw [show decide (((-1) : Int) = 0) = false by decide] at hgt
    clear hc
    go_upto_region 11 with (fail)
    refine lin_begin (opsOf Tryd.f6 11) (by kernel_rfl) ?_
    have hS : Th a b X w w6 := TH.out
    clear TH
    refine lin_now 0 (.bool true) (some 27) (by kernel_rfl) (by kernel_rfl) (by kernel_rfl) ?_
    refine lin_now 1 (.bool true) (some 28) (by kernel_rfl) (by kernel_rfl) (by kernel_rfl) ?_
    refine lin_now 2 (.agg (ints .u8 a).toArray) (some 29) (by kernel_rfl) (by kernel_rfl) (exec_load_mid 24 (.tmp 7) (by kernel_rfl) X 0 (by kernel_rfl) (ints .u8 a) _ hS.fx.whole Tryd.underlying24 rfl IA.out) ?_
    refine lin_now 3 (.agg (ints .u8 a).toArray) (some 30) (by kernel_rfl) (by kernel_rfl) (exec_load_mid 24 (.tmp 2) (by kernel_rfl) w.heap.size 0 (by kernel_rfl) (ints .u8 a) _ hS.fa.whole Tryd.underlying24 rfl IA.out) ?_
    refine lin_now 4 (.bool (decide (a = a))) (some 31) (by kernel_rfl) (by kernel_rfl) (exec_eql _ (.tmp 29) (.tmp 30) 24 (by kernel_rfl) Tryd.underlying24 Tryd.underlying5 sizeByte guardDigest a a LA.out LA.out (by kernel_rfl) (by kernel_rfl)) ?_
    rw [show decide (a = a) = true from decide_eq_true rfl]
    refine lin_now 5 (.bool true) (some 32) (by kernel_rfl) (by kernel_rfl) (by kernel_rfl) ?_
    refine lin_now 6 (.bool true) (some 33) (by kernel_rfl) (by kernel_rfl) (by kernel_rfl) ?_
    refine lin_now 7 (.agg (ints .u8 a).toArray) (some 34) (by kernel_rfl) (by kernel_rfl) (exec_load_mid 24 (.tmp 2) (by kernel_rfl) w.heap.size 0 (by kernel_rfl) (ints .u8 a) _ hS.fa.whole Tryd.underlying24 rfl IA.out) ?_
    refine lin_now 8 (.agg (ints .u8 b).toArray) (some 35) (by kernel_rfl) (by kernel_rfl) (exec_load_mid 24 (.tmp 3) (by kernel_rfl) (w.heap.size + 1) 0 (by kernel_rfl) (ints .u8 b) _ hS.fb.whole Tryd.underlying24 rfl IB.out) ?_
    refine lin_call 9 15 #[.agg (ints .u8 a).toArray, .agg (ints .u8 b).toArray] (some 36) _ (by kernel_rfl) (by kernel_rfl) (by kernel_rfl) (tcompare_walk a b LA.out LB.out BA.out BB.out w6) ?_
    rintro e w8 ⟨rfl, hb8⟩
    have hS8 := hS.next hb8
    refine ⟨_, rfl, ?_⟩
    clear hb8 hS
    rw [HC.out]
    refine lin_now 10 (.int .i64 (-1)) (some 37) (by kernel_rfl) (by kernel_rfl) (by kernel_rfl) ?_
    refine lin_now 11 (.bool true) (some 38) (by kernel_rfl) (by kernel_rfl) (by kernel_rfl) ?_
    refine lin_now 12 (.bool true) (some 39) (by kernel_rfl) (by kernel_rfl) (by kernel_rfl) ?_
    refine lin_now 13 (.bool true) (some 40) (by kernel_rfl) (by kernel_rfl) (by kernel_rfl) ?_
    refine lin_now 14 (.agg (ints .u8 b).toArray) (some 41) (by kernel_rfl) (by kernel_rfl) (exec_load_mid 24 (.tmp 3) (by kernel_rfl) (w.heap.size + 1) 0 (by kernel_rfl) (ints .u8 b) _ hS8.fb.whole Tryd.underlying24 rfl IB.out) ?_
    refine lin_now 15 (.agg (ints .u8 a).toArray) (some 42) (by kernel_rfl) (by kernel_rfl) (exec_load_mid 24 (.tmp 2) (by kernel_rfl) w.heap.size 0 (by kernel_rfl) (ints .u8 a) _ hS8.fa.whole Tryd.underlying24 rfl IA.out) ?_
    refine lin_call 16 15 #[.agg (ints .u8 b).toArray, .agg (ints .u8 a).toArray] (some 43) _ (by kernel_rfl) (by kernel_rfl) (by kernel_rfl) (tcompare_walk b a LB.out LA.out BB.out BA.out w8) ?_
    rintro e w9 ⟨rfl, hb9⟩
    have hS9 := hS8.next hb9
    refine ⟨_, rfl, ?_⟩
    clear hb9 hS8
    rw [cmpD_neg a b, HC.out]
    refine lin_now 17 (.int .i64 (-1)) (some 44) (by kernel_rfl) (by kernel_rfl) (by kernel_rfl) ?_
    refine lin_now 18 (.int .i64 1) (some 45) (by kernel_rfl) (by kernel_rfl) (by kernel_rfl) ?_
    refine lin_now 19 (.bool true) (some 46) (by kernel_rfl) (by kernel_rfl) (by kernel_rfl) ?_
    refine lin_now 20 (.bool true) (some 47) (by kernel_rfl) (by kernel_rfl) (by kernel_rfl) ?_
    refine lin_now 21 (.bool true) (some 48) (by kernel_rfl) (by kernel_rfl) (by kernel_rfl) ?_
    refine lin_now 22 (.agg (ints .u8 a).toArray) (some 49) (by kernel_rfl) (by kernel_rfl) (exec_load_mid 24 (.tmp 2) (by kernel_rfl) w.heap.size 0 (by kernel_rfl) (ints .u8 a) _ hS9.fa.whole Tryd.underlying24 rfl IA.out) ?_
    refine lin_now 23 (.agg (ints .u8 b).toArray) (some 50) (by kernel_rfl) (by kernel_rfl) (exec_load_mid 24 (.tmp 3) (by kernel_rfl) (w.heap.size + 1) 0 (by kernel_rfl) (ints .u8 b) _ hS9.fb.whole Tryd.underlying24 rfl IB.out) ?_
    refine lin_now 24 (.bool (decide (a = b))) (some 51) (by kernel_rfl) (by kernel_rfl) (exec_eql _ (.tmp 49) (.tmp 50) 24 (by kernel_rfl) Tryd.underlying24 Tryd.underlying5 sizeByte guardDigest a b LA.out LB.out (by kernel_rfl) (by kernel_rfl)) ?_
    refine lin_now 25 (.string sa) (some 52) (by kernel_rfl) (by kernel_rfl) (by kernel_rfl) ?_
    refine lin_now 26 (.string sb) (some 53) (by kernel_rfl) (by kernel_rfl) (by kernel_rfl) ?_
    refine lin_now 27 (.bool (decide (a = b))) (some 54) (by kernel_rfl) (by kernel_rfl) (exec_bin .eql 9 9 (.tmp 52) (.tmp 53) (by kernel_rfl) (.string sa) (.string sb) _ (by kernel_rfl) (by kernel_rfl) (fun w => by kernel_rfl) (HEQ.out _)) ?_
    rw [show decide (a = b) = HD from HDE.out]
    refine lin_now 28 (.bool (HD == HD)) (some 55) (by kernel_rfl) (by kernel_rfl) (by kernel_rfl) ?_
    rw [show (HD == HD) = true by cases HD <;> rfl]
    refine lin_now 29 (.bool true) (some 56) (by kernel_rfl) (by kernel_rfl) (by kernel_rfl) ?_
    refine lin_now 30 (.bool true) (some 4) (by kernel_rfl) (by kernel_rfl) (by kernel_rfl) ?_
    refine lin_done 31 (by kernel_rfl) ?_
    have BELF := Lib.hid hS9.bel
    clear hS9
    generalize hact : Act.put _ (some 4) (.bool true) = act
    have h0 : act.tmps.getD 4 undef = .bool true := by rw [← hact]; kernel_rfl
    have hd : act.defers = [] := by rw [← hact]; kernel_rfl
    clear hact
    go_wp2
    refine bodyPost_ret (v := .bool true) ?_ hd ⟨rfl, BELF.out⟩
    rw [results_tmp Tryd.results6, h0]
  · have HC := Lib.hid hc
    rw [hc] at hls hgt
    rw [show decide ((0 : Int) = -1) = false by decide] at hls
    rw [show decide ((0 : Int) = 0) = true by decide] at hgt
    clear hc
    go_upto_region 11 with (fail)
    refine lin_begin (opsOf Tryd.f6 11) (by kernel_rfl) ?_
    have hS : Th a b X w w6 := TH.out
    clear TH
    refine lin_now 0 (.bool true) (some 27) (by kernel_rfl) (by kernel_rfl) (by kernel_rfl) ?_
    refine lin_now 1 (.bool true) (some 28) (by kernel_rfl) (by kernel_rfl) (by kernel_rfl) ?_
    refine lin_now 2 (.agg (ints .u8 a).toArray) (some 29) (by kernel_rfl) (by kernel_rfl) (exec_load_mid 24 (.tmp 7) (by kernel_rfl) X 0 (by kernel_rfl) (ints .u8 a) _ hS.fx.whole Tryd.underlying24 rfl IA.out) ?_
    refine lin_now 3 (.agg (ints .u8 a).toArray) (some 30) (by kernel_rfl) (by kernel_rfl) (exec_load_mid 24 (.tmp 2) (by kernel_rfl) w.heap.size 0 (by kernel_rfl) (ints .u8 a) _ hS.fa.whole Tryd.underlying24 rfl IA.out) ?_
    refine lin_now 4 (.bool (decide (a = a))) (some 31) (by kernel_rfl) (by kernel_rfl) (exec_eql _ (.tmp 29) (.tmp 30) 24 (by kernel_rfl) Tryd.underlying24 Tryd.underlying5 sizeByte guardDigest a a LA.out LA.out (by kernel_rfl) (by kernel_rfl)) ?_
    rw [show decide (a = a) = true from decide_eq_true rfl]
    refine lin_now 5 (.bool true) (some 32) (by kernel_rfl) (by kernel_rfl) (by kernel_rfl) ?_
    refine lin_now 6 (.bool true) (some 33) (by kernel_rfl) (by kernel_rfl) (by kernel_rfl) ?_
    refine lin_now 7 (.agg (ints .u8 a).toArray) (some 34) (by kernel_rfl) (by kernel_rfl) (exec_load_mid 24 (.tmp 2) (by kernel_rfl) w.heap.size 0 (by kernel_rfl) (ints .u8 a) _ hS.fa.whole Tryd.underlying24 rfl IA.out) ?_
    refine lin_now 8 (.agg (ints .u8 b).toArray) (some 35) (by kernel_rfl) (by kernel_rfl) (exec_load_mid 24 (.tmp 3) (by kernel_rfl) (w.heap.size + 1) 0 (by kernel_rfl) (ints .u8 b) _ hS.fb.whole Tryd.underlying24 rfl IB.out) ?_
    refine lin_call 9 15 #[.agg (ints .u8 a).toArray, .agg (ints .u8 b).toArray] (some 36) _ (by kernel_rfl) (by kernel_rfl) (by kernel_rfl) (tcompare_walk a b LA.out LB.out BA.out BB.out w6) ?_
    rintro e w8 ⟨rfl, hb8⟩
    have hS8 := hS.next hb8
    refine ⟨_, rfl, ?_⟩
    clear hb8 hS
    rw [HC.out]
    refine lin_now 10 (.int .i64 0) (some 37) (by kernel_rfl) (by kernel_rfl) (by kernel_rfl) ?_
    refine lin_now 11 (.bool true) (some 38) (by kernel_rfl) (by kernel_rfl) (by kernel_rfl) ?_
    refine lin_now 12 (.bool true) (some 39) (by kernel_rfl) (by kernel_rfl) (by kernel_rfl) ?_
    refine lin_now 13 (.bool true) (some 40) (by kernel_rfl) (by kernel_rfl) (by kernel_rfl) ?_
    refine lin_now 14 (.agg (ints .u8 b).toArray) (some 41) (by kernel_rfl) (by kernel_rfl) (exec_load_mid 24 (.tmp 3) (by kernel_rfl) (w.heap.size + 1) 0 (by kernel_rfl) (ints .u8 b) _ hS8.fb.whole Tryd.underlying24 rfl IB.out) ?_
    refine lin_now 15 (.agg (ints .u8 a).toArray) (some 42) (by kernel_rfl) (by kernel_rfl) (exec_load_mid 24 (.tmp 2) (by kernel_rfl) w.heap.size 0 (by kernel_rfl) (ints .u8 a) _ hS8.fa.whole Tryd.underlying24 rfl IA.out) ?_
    refine lin_call 16 15 #[.agg (ints .u8 b).toArray, .agg (ints .u8 a).toArray] (some 43) _ (by kernel_rfl) (by kernel_rfl) (by kernel_rfl) (tcompare_walk b a LB.out LA.out BB.out BA.out w8) ?_
    rintro e w9 ⟨rfl, hb9⟩
    have hS9 := hS8.next hb9
    refine ⟨_, rfl, ?_⟩
    clear hb9 hS8
    rw [cmpD_neg a b, HC.out]
    refine lin_now 17 (.int .i64 0) (some 44) (by kernel_rfl) (by kernel_rfl) (by kernel_rfl) ?_
    refine lin_now 18 (.int .i64 0) (some 45) (by kernel_rfl) (by kernel_rfl) (by kernel_rfl) ?_
    refine lin_now 19 (.bool true) (some 46) (by kernel_rfl) (by kernel_rfl) (by kernel_rfl) ?_
    refine lin_now 20 (.bool true) (some 47) (by kernel_rfl) (by kernel_rfl) (by kernel_rfl) ?_
    refine lin_now 21 (.bool true) (some 48) (by kernel_rfl) (by kernel_rfl) (by kernel_rfl) ?_
    refine lin_now 22 (.agg (ints .u8 a).toArray) (some 49) (by kernel_rfl) (by kernel_rfl) (exec_load_mid 24 (.tmp 2) (by kernel_rfl) w.heap.size 0 (by kernel_rfl) (ints .u8 a) _ hS9.fa.whole Tryd.underlying24 rfl IA.out) ?_
    refine lin_now 23 (.agg (ints .u8 b).toArray) (some 50) (by kernel_rfl) (by kernel_rfl) (exec_load_mid 24 (.tmp 3) (by kernel_rfl) (w.heap.size + 1) 0 (by kernel_rfl) (ints .u8 b) _ hS9.fb.whole Tryd.underlying24 rfl IB.out) ?_
    refine lin_now 24 (.bool (decide (a = b))) (some 51) (by kernel_rfl) (by kernel_rfl) (exec_eql _ (.tmp 49) (.tmp 50) 24 (by kernel_rfl) Tryd.underlying24 Tryd.underlying5 sizeByte guardDigest a b LA.out LB.out (by kernel_rfl) (by kernel_rfl)) ?_
    refine lin_now 25 (.string sa) (some 52) (by kernel_rfl) (by kernel_rfl) (by kernel_rfl) ?_
    refine lin_now 26 (.string sb) (some 53) (by kernel_rfl) (by kernel_rfl) (by kernel_rfl) ?_
    refine lin_now 27 (.bool (decide (a = b))) (some 54) (by kernel_rfl) (by kernel_rfl) (exec_bin .eql 9 9 (.tmp 52) (.tmp 53) (by kernel_rfl) (.string sa) (.string sb) _ (by kernel_rfl) (by kernel_rfl) (fun w => by kernel_rfl) (HEQ.out _)) ?_
    rw [show decide (a = b) = HD from HDE.out]
    refine lin_now 28 (.bool (HD == HD)) (some 55) (by kernel_rfl) (by kernel_rfl) (by kernel_rfl) ?_
    rw [show (HD == HD) = true by cases HD <;> rfl]
    refine lin_now 29 (.bool true) (some 56) (by kernel_rfl) (by kernel_rfl) (by kernel_rfl) ?_
    refine lin_now 30 (.bool true) (some 4) (by kernel_rfl) (by kernel_rfl) (by kernel_rfl) ?_
    refine lin_done 31 (by kernel_rfl) ?_
    have BELF := Lib.hid hS9.bel
    clear hS9
    generalize hact : Act.put _ (some 4) (.bool true) = act
    have h0 : act.tmps.getD 4 undef = .bool true := by rw [← hact]; kernel_rfl
    have hd : act.defers = [] := by rw [← hact]; kernel_rfl
    clear hact
    go_wp2
    refine bodyPost_ret (v := .bool true) ?_ hd ⟨rfl, BELF.out⟩
    rw [results_tmp Tryd.results6, h0]
  · have HC := Lib.hid hc
    rw [hc] at hls hgt
    rw [show decide ((1 : Int) = -1) = false by decide] at hls
    rw [show decide ((1 : Int) = 0) = false by decide] at hgt
    clear hc
    go_upto_region 11 with (fail)
    refine lin_begin (opsOf Tryd.f6 11) (by kernel_rfl) ?_
    have hS : Th a b X w w6 := TH.out
    clear TH
    refine lin_now 0 (.bool true) (some 27) (by kernel_rfl) (by kernel_rfl) (by kernel_rfl) ?_
    refine lin_now 1 (.bool true) (some 28) (by kernel_rfl) (by kernel_rfl) (by kernel_rfl) ?_
    refine lin_now 2 (.agg (ints .u8 a).toArray) (some 29) (by kernel_rfl) (by kernel_rfl) (exec_load_mid 24 (.tmp 7) (by kernel_rfl) X 0 (by kernel_rfl) (ints .u8 a) _ hS.fx.whole Tryd.underlying24 rfl IA.out) ?_
    refine lin_now 3 (.agg (ints .u8 a).toArray) (some 30) (by kernel_rfl) (by kernel_rfl) (exec_load_mid 24 (.tmp 2) (by kernel_rfl) w.heap.size 0 (by kernel_rfl) (ints .u8 a) _ hS.fa.whole Tryd.underlying24 rfl IA.out) ?_
    refine lin_now 4 (.bool (decide (a = a))) (some 31) (by kernel_rfl) (by kernel_rfl) (exec_eql _ (.tmp 29) (.tmp 30) 24 (by kernel_rfl) Tryd.underlying24 Tryd.underlying5 sizeByte guardDigest a a LA.out LA.out (by kernel_rfl) (by kernel_rfl)) ?_
    rw [show decide (a = a) = true from decide_eq_true rfl]
    refine lin_now 5 (.bool true) (some 32) (by kernel_rfl) (by kernel_rfl) (by kernel_rfl) ?_
    refine lin_now 6 (.bool true) (some 33) (by kernel_rfl) (by kernel_rfl) (by kernel_rfl) ?_
    refine lin_now 7 (.agg (ints .u8 a).toArray) (some 34) (by kernel_rfl) (by kernel_rfl) (exec_load_mid 24 (.tmp 2) (by kernel_rfl) w.heap.size 0 (by kernel_rfl) (ints .u8 a) _ hS.fa.whole Tryd.underlying24 rfl IA.out) ?_
    refine lin_now 8 (.agg (ints .u8 b).toArray) (some 35) (by kernel_rfl) (by kernel_rfl) (exec_load_mid 24 (.tmp 3) (by kernel_rfl) (w.heap.size + 1) 0 (by kernel_rfl) (ints .u8 b) _ hS.fb.whole Tryd.underlying24 rfl IB.out) ?_
    refine lin_call 9 15 #[.agg (ints .u8 a).toArray, .agg (ints .u8 b).toArray] (some 36) _ (by kernel_rfl) (by kernel_rfl) (by kernel_rfl) (tcompare_walk a b LA.out LB.out BA.out BB.out w6) ?_
    rintro e w8 ⟨rfl, hb8⟩
    have hS8 := hS.next hb8
    refine ⟨_, rfl, ?_⟩
    clear hb8 hS
    rw [HC.out]
    refine lin_now 10 (.int .i64 1) (some 37) (by kernel_rfl) (by kernel_rfl) (by kernel_rfl) ?_
    refine lin_now 11 (.bool true) (some 38) (by kernel_rfl) (by kernel_rfl) (by kernel_rfl) ?_
    refine lin_now 12 (.bool true) (some 39) (by kernel_rfl) (by kernel_rfl) (by kernel_rfl) ?_
    refine lin_now 13 (.bool true) (some 40) (by kernel_rfl) (by kernel_rfl) (by kernel_rfl) ?_
    refine lin_now 14 (.agg (ints .u8 b).toArray) (some 41) (by kernel_rfl) (by kernel_rfl) (exec_load_mid 24 (.tmp 3) (by kernel_rfl) (w.heap.size + 1) 0 (by kernel_rfl) (ints .u8 b) _ hS8.fb.whole Tryd.underlying24 rfl IB.out) ?_
    refine lin_now 15 (.agg (ints .u8 a).toArray) (some 42) (by kernel_rfl) (by kernel_rfl) (exec_load_mid 24 (.tmp 2) (by kernel_rfl) w.heap.size 0 (by kernel_rfl) (ints .u8 a) _ hS8.fa.whole Tryd.underlying24 rfl IA.out) ?_
    refine lin_call 16 15 #[.agg (ints .u8 b).toArray, .agg (ints .u8 a).toArray] (some 43) _ (by kernel_rfl) (by kernel_rfl) (by kernel_rfl) (tcompare_walk b a LB.out LA.out BB.out BA.out w8) ?_
    rintro e w9 ⟨rfl, hb9⟩
    have hS9 := hS8.next hb9
    refine ⟨_, rfl, ?_⟩
    clear hb9 hS8
    rw [cmpD_neg a b, HC.out]
    refine lin_now 17 (.int .i64 1) (some 44) (by kernel_rfl) (by kernel_rfl) (by kernel_rfl) ?_
    refine lin_now 18 (.int .i64 (-1)) (some 45) (by kernel_rfl) (by kernel_rfl) (by kernel_rfl) ?_
    refine lin_now 19 (.bool true) (some 46) (by kernel_rfl) (by kernel_rfl) (by kernel_rfl) ?_
    refine lin_now 20 (.bool true) (some 47) (by kernel_rfl) (by kernel_rfl) (by kernel_rfl) ?_
    refine lin_now 21 (.bool true) (some 48) (by kernel_rfl) (by kernel_rfl) (by kernel_rfl) ?_
    refine lin_now 22 (.agg (ints .u8 a).toArray) (some 49) (by kernel_rfl) (by kernel_rfl) (exec_load_mid 24 (.tmp 2) (by kernel_rfl) w.heap.size 0 (by kernel_rfl) (ints .u8 a) _ hS9.fa.whole Tryd.underlying24 rfl IA.out) ?_
    refine lin_now 23 (.agg (ints .u8 b).toArray) (some 50) (by kernel_rfl) (by kernel_rfl) (exec_load_mid 24 (.tmp 3) (by kernel_rfl) (w.heap.size + 1) 0 (by kernel_rfl) (ints .u8 b) _ hS9.fb.whole Tryd.underlying24 rfl IB.out) ?_
    refine lin_now 24 (.bool (decide (a = b))) (some 51) (by kernel_rfl) (by kernel_rfl) (exec_eql _ (.tmp 49) (.tmp 50) 24 (by kernel_rfl) Tryd.underlying24 Tryd.underlying5 sizeByte guardDigest a b LA.out LB.out (by kernel_rfl) (by kernel_rfl)) ?_
    refine lin_now 25 (.string sa) (some 52) (by kernel_rfl) (by kernel_rfl) (by kernel_rfl) ?_
    refine lin_now 26 (.string sb) (some 53) (by kernel_rfl) (by kernel_rfl) (by kernel_rfl) ?_
    refine lin_now 27 (.bool (decide (a = b))) (some 54) (by kernel_rfl) (by kernel_rfl) (exec_bin .eql 9 9 (.tmp 52) (.tmp 53) (by kernel_rfl) (.string sa) (.string sb) _ (by kernel_rfl) (by kernel_rfl) (fun w => by kernel_rfl) (HEQ.out _)) ?_
    rw [show decide (a = b) = HD from HDE.out]
    refine lin_now 28 (.bool (HD == HD)) (some 55) (by kernel_rfl) (by kernel_rfl) (by kernel_rfl) ?_
    rw [show (HD == HD) = true by cases HD <;> rfl]
    refine lin_now 29 (.bool true) (some 56) (by kernel_rfl) (by kernel_rfl) (by kernel_rfl) ?_
    refine lin_now 30 (.bool true) (some 4) (by kernel_rfl) (by kernel_rfl) (by kernel_rfl) ?_
    refine lin_done 31 (by kernel_rfl) ?_
    have BELF := Lib.hid hS9.bel
    clear hS9
    generalize hact : Act.put _ (some 4) (.bool true) = act
    have h0 : act.tmps.getD 4 undef = .bool true := by rw [← hact]; kernel_rfl
    have hd : act.defers = [] := by rw [← hact]; kernel_rfl
    clear hact
    go_wp2
    refine bodyPost_ret (v := .bool true) ?_ hd ⟨rfl, BELF.out⟩
    rw [results_tmp Tryd.results6, h0]
end Go.Proofs.YtmaobmeaanafcaaDoor
