/- The reference's turn and times. -/
import Derived.Test.YtaeghgnhpgkcdaaDoorShaAlive
import Derived.Deep.QuietTactic
import Derived.BigQuiet
namespace Go.Proofs.YtaeghgnhpgkcdaaDoor
open Go.RowKit
set_option maxRecDepth 100000

theorem turn_walk (x : Int) (n : Nat) (h1 : 1 ≤ n) (h2 : n ≤ 31) (w : World) :
    Calls Tryd.prog 52 #[.int .u32 x, .int .u64 (n : Int)] w fun e w' => e = .returned (.int .u32 (bits BinOp.or IntKind.u32 (x / 2 ^ n) (x * 2 ^ (32 - n) % 4294967296))) ∧ w = w' := by
  have q0 : 0 ≤ (n : Int) := by omega
  have q1 : (n : Int) ≤ 31 := by omega
  go_enter Tryd.func52, Tryd.ntmps52
  go_wp2
  go_ret
  exact ⟨rfl, rfl⟩

theorem infoU64 : (Tryd.prog.info? 77).map (fun i => (i.zero, i.size, i.bytes)) = some (some (.int .u64 0), 1, 8) := by kernel_rfl
/-- A slice in new memory whose block is known whole. -/
def RowNew (t : TypeId) (k : IntKind) (zs : List Int) (w : World) (e : Ending) (w' : World) : Prop := ∃ b, w.heap.size ≤ b ∧ e = .returned (.slice (some ⟨b, 0, none⟩) zs.length zs.length) ∧ Blk w' b t (ints k zs) ∧ Below w.heap.size w w'
/-- A slice whose block is known whole. -/
def RowAt (w : World) (v : Value) (t : TypeId) (k : IntKind) (zs : List Int) : Prop := ∃ b, v = .slice (some ⟨b, 0, none⟩) zs.length zs.length ∧ Blk w b t (ints k zs)

/-- A product by digits, step by step, in the walk's own forms. -/
def tmT (o x y c : Int) : Int := IntKind.u64.wrap (IntKind.u64.wrap (o + IntKind.u64.wrap (x * y)) + c)
def tmInner (xs ys : List Int) (i : Nat) (out : List Int) : Nat → List Int × Int
  | 0 => (out, 0)
  | j + 1 =>
    let r := tmInner xs ys i out j
    let t := tmT (r.1[i + j]?.getD 0) (xs[i]?.getD 0) (ys[j]?.getD 0) r.2
    (r.1.set (i + j) (bits BinOp.and IntKind.u64 t 65535), t / 65536)
def tmOuter (xs ys : List Int) : Nat → List Int
  | 0 => List.replicate (xs.length + ys.length) 0
  | i + 1 =>
    let r := tmInner xs ys i (tmOuter xs ys i) ys.length
    r.1.set (i + ys.length) (IntKind.u64.wrap (r.1[i + ys.length]?.getD 0 + r.2))
theorem tmInner_length (xs ys : List Int) (i : Nat) (out : List Int) (j : Nat) : (tmInner xs ys i out j).1.length = out.length := by
  induction j with
  | zero => rfl
  | succ j ih => simp [tmInner, ih]
theorem tmOuter_length (xs ys : List Int) (i : Nat) : (tmOuter xs ys i).length = xs.length + ys.length := by
  induction i with
  | zero => simp [tmOuter]
  | succ i ih => simp [tmOuter, tmInner_length, ih]

set_option maxHeartbeats 1000000 in
theorem times_walk (ba bb : Nat) (xs ys : List Int) (hx : xs.length ≤ 100) (hy : ys.length ≤ 100) (w : World) (ha : Blk w ba 77 (ints .u64 xs)) (hb : Blk w bb 77 (ints .u64 ys)) (ca cb : Nat) :
    Calls Tryd.prog 60 #[.slice (some ⟨ba, 0, none⟩) xs.length ca, .slice (some ⟨bb, 0, none⟩) ys.length cb] w (RowNew 77 .u64 (tmOuter xs ys xs.length) w) := by
  obtain ⟨n, en⟩ : ∃ n, Hid (n = xs.length) := ⟨_, rfl⟩
  obtain ⟨m, em⟩ : ∃ m, Hid (m = ys.length) := ⟨_, rfl⟩
  rw [← en.out] at hx ⊢
  rw [← em.out] at hy ⊢
  have HA := Lib.hid ha
  have HB := Lib.hid hb
  clear ha hb
  go_enter Tryd.func60, Tryd.ntmps60
  go_wp2_with (refine wpList_make_blk _ rfl _ _ 74 rfl 77 (.int .u64 0) 8 Tryd.underlying74 infoU64 rfl _ _ _ _ (n + m) rfl rfl ?c1 ?c2 (by omega) (by omega) ?_)
  case c1 => omega
  case c2 => omega
  intro w1 hb1 hbel1 hsz1
  have G1 : Hid (Blk w1 w.heap.size 77 (ints .u64 (tmOuter xs ys 0)) ∧ Below w.heap.size w w1) := ⟨by rw [tmOuter, ← en.out, ← em.out]; simpa [ints] using hb1, hbel1⟩
  clear hb1 hbel1 hsz1
  have hcast : ((n + m : Nat) : Int) = (n : Int) + (m : Int) := by omega
  have HCAST := Lib.hid hcast
  clear hcast
  go_wp2
  go_loopw [6, 7, 8, 9] (fun i _ _ _ wr => ∃ k : Nat, k ≤ n ∧ i = .int .i64 k ∧ Blk wr w.heap.size 77 (ints .u64 (tmOuter xs ys k)) ∧ Below w.heap.size w wr) (fun i _ _ _ _ => n - (intOf i).toNat)
  case atStart => exact ⟨0, by omega, rfl, G1.out.1, G1.out.2⟩
  case round =>
    obtain ⟨k, hk, rfl, hbl, hbel⟩ := hrel
    clear G1
    by_cases hlt : k < n
    · have q1 : (k : Int) < (n : Int) := by omega
      have HBL := Lib.hid hbl
      have HBE := Lib.hid hbel
      clear hbl hbel
      go_wp2
      go_loopw [7, 8, 9] (fun c j _ wr => ∃ l : Nat, l ≤ m ∧ j = .int .i64 l ∧ c = .int .u64 (tmInner xs ys k (tmOuter xs ys k) l).2 ∧ Blk wr w.heap.size 77 (ints .u64 (tmInner xs ys k (tmOuter xs ys k) l).1) ∧ Below w.heap.size w wr) (fun _ j _ _ => m - (intOf j).toNat)
      case atStart => exact ⟨0, by omega, rfl, rfl, HBL.out, HBE.out⟩
      case round =>
        obtain ⟨l, hl, rfl, rfl, hbl, hbel⟩ := hrel
        clear HBL HBE
        have hlen : (tmInner xs ys k (tmOuter xs ys k) l).1.length = n + m := by rw [tmInner_length, tmOuter_length, en.out, em.out]
        by_cases hlm : l < m
        · have q2 : (l : Int) < (m : Int) := by omega
          have ca1 : wr.cell? ⟨ba, k, none⟩ = some (.int .u64 (xs.getD k 0)) := by
            rw [hbel.cell (p := ⟨ba, k, none⟩) HA.out.lt]; exact HA.out.cell (ints_getD (by rw [← en.out]; exact hlt))
          have cb1 : wr.cell? ⟨bb, l, none⟩ = some (.int .u64 (ys.getD l 0)) := by
            rw [hbel.cell (p := ⟨bb, l, none⟩) HB.out.lt]; exact HB.out.cell (ints_getD (by rw [← em.out]; exact hlm))
          have co1 := hbl.cell (ints_getD (k := .u64) (j := k + l) (by omega))
          have fo1 := hbl.free (k + l)
          have hnext : Hid (tmInner xs ys k (tmOuter xs ys k) (l + 1) = ((tmInner xs ys k (tmOuter xs ys k) l).1.set (k + l) (bits BinOp.and IntKind.u64 (tmT ((tmInner xs ys k (tmOuter xs ys k) l).1[k + l]?.getD 0) (xs[k]?.getD 0) (ys[l]?.getD 0) (tmInner xs ys k (tmOuter xs ys k) l).2) 65535), tmT ((tmInner xs ys k (tmOuter xs ys k) l).1[k + l]?.getD 0) (xs[k]?.getD 0) (ys[l]?.getD 0) (tmInner xs ys k (tmOuter xs ys k) l).2 / 65536)) := rfl
          generalize tmInner xs ys k (tmOuter xs ys k) l = r at *
          have e1 : IntKind.i64.wrap ((k : Int) + (l : Int)) = (k : Int) + (l : Int) := IntWalk.i64_in _ (by omega)
          have e2 : 0 ≤ (k : Int) + (l : Int) := by omega
          have e3 : ((k : Int) + (l : Int)).toNat = k + l := by omega
          have e4 : (k : Int) + (l : Int) < ((n + m : Nat) : Int) := by omega
          have e5 : (k : Int) + (l : Int) < (n : Int) + (m : Int) := by omega
          have HBL := Lib.hid hbl
          have HBE := Lib.hid hbel
          clear hbl hbel hlen
          go_wp2
          go_quiet (fail)
          go_wp2
          go_roundw
          case rel =>
            refine ⟨l + 1, by omega, by go_num, by rw [hnext.out]; rfl, ?_, ?_⟩
            · rw [hnext.out]
              have hs := (show Blk (wr.drewN nq) w.heap.size 77 (ints .u64 r.1) from HBL.out).set (k + l) (.int .u64 (bits BinOp.and IntKind.u64 (tmT (r.1[k + l]?.getD 0) (xs[k]?.getD 0) (ys[l]?.getD 0) r.2) 65535))
              rw [ints_set] at hs
              exact hs
            · exact (HBE.out.trans ((below_drewN wr nq).mono HBE.out.size)).setCell (Nat.le_refl _) _
          case measure => simp [intOf]; omega
        · have q2 : ¬ ((l : Int) < (m : Int)) := by omega
          have co1 := hbl.cell (ints_getD (k := .u64) (j := k + m) (by omega))
          have fo1 := hbl.free (k + m)
          have el : l = ys.length := by rw [← em.out]; omega
          have hnext : Hid (tmOuter xs ys (k + 1) = (tmInner xs ys k (tmOuter xs ys k) l).1.set (k + m) (IntKind.u64.wrap ((tmInner xs ys k (tmOuter xs ys k) l).1[k + m]?.getD 0 + (tmInner xs ys k (tmOuter xs ys k) l).2))) := by
            unfold Hid; rw [em.out, el]; rfl
          generalize tmInner xs ys k (tmOuter xs ys k) l = r at *
          have HBL := Lib.hid hbl
          have HBE := Lib.hid hbel
          have e5 : (k : Int) + (m : Int) < (n : Int) + (m : Int) := by omega
          have e6 : ((k : Int) + (m : Int)).toNat = k + m := by omega
          clear hbl hbel hlen el
          go_wp2
          go_roundw
          case rel =>
            refine ⟨k + 1, by omega, by go_num, ?_, HBE.out.setCell (Nat.le_refl _) _⟩
            rw [hnext.out]
            have hs := HBL.out.set (k + m) (.int .u64 (IntKind.u64.wrap (r.1[k + m]?.getD 0 + r.2)))
            rw [ints_set] at hs
            exact hs
          case measure => simp [intOf]; omega
    · have q1 : ¬ ((k : Int) < (n : Int)) := by omega
      have ek : k = n := by omega
      have HBL : Hid (Blk wr w.heap.size 77 (ints .u64 (tmOuter xs ys n))) := by rw [ek] at hbl; exact hbl
      have HBE := Lib.hid hbel
      clear hbl hbel ek
      go_wp2
      go_ret
      refine ⟨w.heap.size, Nat.le_refl _, ?_, HBL.out, HBE.out⟩
      rw [tmOuter_length, ← en.out, ← em.out]
      rfl
end Go.Proofs.YtaeghgnhpgkcdaaDoor
