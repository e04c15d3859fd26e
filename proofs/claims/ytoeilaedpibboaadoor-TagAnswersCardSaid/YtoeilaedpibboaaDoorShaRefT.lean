/- The reference's turn and times. -/
import Derived.Test.YtoeilaedpibboaaDoorShaAlive
import Derived.Deep.QuietTactic
import Derived.BigQuiet
import Derived.OwnWalk
import Derived.Laws.OwnMore
import Derived.Deep.AppendLies
import Derived.Test.YtoeilaedpibboaaDoorShaSpec
namespace Go.Proofs.YtoeilaedpibboaaDoor
open Go.RowKit
set_option maxRecDepth 100000

theorem turn_walk (x : Int) (n : Nat) (h1 : 1 ≤ n) (h2 : n ≤ 31) (w : World) :
    Calls Tryd.prog 72 #[.int .u32 x, .int .u64 (n : Int)] w fun e w' => e = .returned (.int .u32 (bits BinOp.or IntKind.u32 (x / 2 ^ n) (x * 2 ^ (32 - n) % 4294967296))) ∧ w = w' := by
  have q0 : 0 ≤ (n : Int) := by omega
  have q1 : (n : Int) ≤ 31 := by omega
  go_enter Tryd.func72, Tryd.ntmps72
  go_wp2
  go_ret
  exact ⟨rfl, rfl⟩

theorem infoU64 : (Tryd.prog.info? 85).map (fun i => (i.zero, i.size, i.bytes)) = some (some (.int .u64 0), 1, 8) := by kernel_rfl
/-- A slice in new memory whose block is known whole. -/
def RowNew (t : TypeId) (k : IntKind) (zs : List Int) (w : World) (e : Ending) (w' : World) : Prop := ∃ b, w.heap.size ≤ b ∧ e = .returned (.slice (some ⟨b, 0, none⟩) zs.length zs.length) ∧ Blk w' b t (ints k zs) ∧ Below w.heap.size w w'
/-- A slice whose block is known whole. -/
def RowAt (w : World) (v : Value) (t : TypeId) (k : IntKind) (zs : List Int) : Prop := ∃ b, v = .slice (some ⟨b, 0, none⟩) zs.length zs.length ∧ Blk w b t (ints k zs)

/-- A product by digits, step by step, in the walk's own forms. -/
def tmT (o x y c : Int) : Int := IntKind.u64.wrap (IntKind.u64.wrap (o + IntKind.u64.wrap (x * y)) + c)
def tmInner (xs ys : List Int) (i : Nat) (out : List Int) : Nat → List Int × Int
  | 0 => (out, 0)
  | j + 1 =>
    let r := tmInner xs ys i out j
    let t := tmT (r.1[i + j]?.getD 0) (xs[i]?.getD 0) (ys[j]?.getD 0) r.2
    (r.1.set (i + j) (bits BinOp.and IntKind.u64 t 65535), t / 65536)
def tmOuter (xs ys : List Int) : Nat → List Int
  | 0 => List.replicate (xs.length + ys.length) 0
  | i + 1 =>
    let r := tmInner xs ys i (tmOuter xs ys i) ys.length
    r.1.set (i + ys.length) (IntKind.u64.wrap (r.1[i + ys.length]?.getD 0 + r.2))
theorem tmInner_length (xs ys : List Int) (i : Nat) (out : List Int) (j : Nat) : (tmInner xs ys i out j).1.length = out.length := by
  induction j with
  | zero => rfl
  | succ j ih => simp [tmInner, ih]
theorem tmOuter_length (xs ys : List Int) (i : Nat) : (tmOuter xs ys i).length = xs.length + ys.length := by
  induction i with
  | zero => simp [tmOuter]
  | succ i ih => simp [tmOuter, tmInner_length, ih]

set_option maxHeartbeats 1000000 in
theorem times_walk (ba bb : Nat) (xs ys : List Int) (hx : xs.length ≤ 100) (hy : ys.length ≤ 100) (w : World) (ha : Blk w ba 85 (ints .u64 xs)) (hb : Blk w bb 85 (ints .u64 ys)) (ca cb : Nat) :
    Calls Tryd.prog 83 #[.slice (some ⟨ba, 0, none⟩) xs.length ca, .slice (some ⟨bb, 0, none⟩) ys.length cb] w (RowNew 85 .u64 (tmOuter xs ys xs.length) w) := by
  obtain ⟨n, en⟩ : ∃ n, Hid (n = xs.length) := ⟨_, rfl⟩
  obtain ⟨m, em⟩ : ∃ m, Hid (m = ys.length) := ⟨_, rfl⟩
  rw [← en.out] at hx ⊢
  rw [← em.out] at hy ⊢
  have HA := Lib.hid ha
  have HB := Lib.hid hb
  clear ha hb
  go_enter Tryd.func83, Tryd.ntmps83
  go_wp2_with (refine wpList_make_blk _ rfl _ _ 96 rfl 85 (.int .u64 0) 8 Tryd.underlying96 infoU64 rfl _ _ _ _ (n + m) rfl rfl ?c1 ?c2 (by omega) (by omega) ?_)
  case c1 => omega
  case c2 => omega
  intro w1 hb1 hbel1 hsz1
  have G1 : Hid (Blk w1 w.heap.size 85 (ints .u64 (tmOuter xs ys 0)) ∧ Below w.heap.size w w1) := ⟨by rw [tmOuter, ← en.out, ← em.out]; simpa [ints] using hb1, hbel1⟩
  clear hb1 hbel1 hsz1
  have hcast : ((n + m : Nat) : Int) = (n : Int) + (m : Int) := by omega
  have HCAST := Lib.hid hcast
  clear hcast
  go_wp2
  go_loopw [6, 7, 8, 9] (fun i _ _ _ wr => ∃ k : Nat, k ≤ n ∧ i = .int .i64 k ∧ Blk wr w.heap.size 85 (ints .u64 (tmOuter xs ys k)) ∧ Below w.heap.size w wr) (fun i _ _ _ _ => n - (intOf i).toNat)
  case atStart => exact ⟨0, by omega, rfl, G1.out.1, G1.out.2⟩
  case round =>
    obtain ⟨k, hk, rfl, hbl, hbel⟩ := hrel
    clear G1
    by_cases hlt : k < n
    · have q1 : (k : Int) < (n : Int) := by omega
      have HBL := Lib.hid hbl
      have HBE := Lib.hid hbel
      clear hbl hbel
      go_wp2
      go_loopw [7, 8, 9] (fun c j _ wr => ∃ l : Nat, l ≤ m ∧ j = .int .i64 l ∧ c = .int .u64 (tmInner xs ys k (tmOuter xs ys k) l).2 ∧ Blk wr w.heap.size 85 (ints .u64 (tmInner xs ys k (tmOuter xs ys k) l).1) ∧ Below w.heap.size w wr) (fun _ j _ _ => m - (intOf j).toNat)
      case atStart => exact ⟨0, by omega, rfl, rfl, HBL.out, HBE.out⟩
      case round =>
        obtain ⟨l, hl, rfl, rfl, hbl, hbel⟩ := hrel
        clear HBL HBE
        have hlen : (tmInner xs ys k (tmOuter xs ys k) l).1.length = n + m := by rw [tmInner_length, tmOuter_length, en.out, em.out]
        by_cases hlm : l < m
        · have q2 : (l : Int) < (m : Int) := by omega
          have ca1 : wr.cell? ⟨ba, k, none⟩ = some (.int .u64 (xs.getD k 0)) := by
            rw [hbel.cell (p := ⟨ba, k, none⟩) HA.out.lt]; exact HA.out.cell (ints_getD (by rw [← en.out]; exact hlt))
          have cb1 : wr.cell? ⟨bb, l, none⟩ = some (.int .u64 (ys.getD l 0)) := by
            rw [hbel.cell (p := ⟨bb, l, none⟩) HB.out.lt]; exact HB.out.cell (ints_getD (by rw [← em.out]; exact hlm))
          have co1 := hbl.cell (ints_getD (k := .u64) (j := k + l) (by omega))
          have fo1 := hbl.free (k + l)
          have hnext : Hid (tmInner xs ys k (tmOuter xs ys k) (l + 1) = ((tmInner xs ys k (tmOuter xs ys k) l).1.set (k + l) (bits BinOp.and IntKind.u64 (tmT ((tmInner xs ys k (tmOuter xs ys k) l).1[k + l]?.getD 0) (xs[k]?.getD 0) (ys[l]?.getD 0) (tmInner xs ys k (tmOuter xs ys k) l).2) 65535), tmT ((tmInner xs ys k (tmOuter xs ys k) l).1[k + l]?.getD 0) (xs[k]?.getD 0) (ys[l]?.getD 0) (tmInner xs ys k (tmOuter xs ys k) l).2 / 65536)) := rfl
          generalize tmInner xs ys k (tmOuter xs ys k) l = r at *
          have e1 : IntKind.i64.wrap ((k : Int) + (l : Int)) = (k : Int) + (l : Int) := IntWalk.i64_in _ (by omega)
          have e2 : 0 ≤ (k : Int) + (l : Int) := by omega
          have e3 : ((k : Int) + (l : Int)).toNat = k + l := by omega
          have e4 : (k : Int) + (l : Int) < ((n + m : Nat) : Int) := by omega
          have e5 : (k : Int) + (l : Int) < (n : Int) + (m : Int) := by omega
          have HBL := Lib.hid hbl
          have HBE := Lib.hid hbel
          clear hbl hbel hlen
          go_wp2
          go_quiet (fail)
          go_wp2
          go_roundw
          case rel =>
            refine ⟨l + 1, by omega, by go_num, by rw [hnext.out]; rfl, ?_, ?_⟩
            · rw [hnext.out]
              have hs := (show Blk (wr.drewN nq) w.heap.size 85 (ints .u64 r.1) from HBL.out).set (k + l) (.int .u64 (bits BinOp.and IntKind.u64 (tmT (r.1[k + l]?.getD 0) (xs[k]?.getD 0) (ys[l]?.getD 0) r.2) 65535))
              rw [ints_set] at hs
              exact hs
            · exact (HBE.out.trans ((below_drewN wr nq).mono HBE.out.size)).setCell (Nat.le_refl _) _
          case measure => simp [intOf]; omega
        · have q2 : ¬ ((l : Int) < (m : Int)) := by omega
          have co1 := hbl.cell (ints_getD (k := .u64) (j := k + m) (by omega))
          have fo1 := hbl.free (k + m)
          have el : l = ys.length := by rw [← em.out]; omega
          have hnext : Hid (tmOuter xs ys (k + 1) = (tmInner xs ys k (tmOuter xs ys k) l).1.set (k + m) (IntKind.u64.wrap ((tmInner xs ys k (tmOuter xs ys k) l).1[k + m]?.getD 0 + (tmInner xs ys k (tmOuter xs ys k) l).2))) := by
            unfold Hid; rw [em.out, el]; rfl
          generalize tmInner xs ys k (tmOuter xs ys k) l = r at *
          have HBL := Lib.hid hbl
          have HBE := Lib.hid hbel
          have e5 : (k : Int) + (m : Int) < (n : Int) + (m : Int) := by omega
          have e6 : ((k : Int) + (m : Int)).toNat = k + m := by omega
          clear hbl hbel hlen el
          go_wp2
          go_roundw
          case rel =>
            refine ⟨k + 1, by omega, by go_num, ?_, HBE.out.setCell (Nat.le_refl _) _⟩
            rw [hnext.out]
            have hs := HBL.out.set (k + m) (.int .u64 (IntKind.u64.wrap (r.1[k + m]?.getD 0 + r.2)))
            rw [ints_set] at hs
            exact hs
          case measure => simp [intOf]; omega
    · have q1 : ¬ ((k : Int) < (n : Int)) := by omega
      have ek : k = n := by omega
      have HBL : Hid (Blk wr w.heap.size 85 (ints .u64 (tmOuter xs ys n))) := by rw [ek] at hbl; exact hbl
      have HBE := Lib.hid hbel
      clear hbl hbel ek
      go_wp2
      go_ret
      refine ⟨w.heap.size, Nat.le_refl _, ?_, HBL.out, HBE.out⟩
      rw [tmOuter_length, ← en.out, ← em.out]
      rfl
end Go.Proofs.YtoeilaedpibboaaDoor
/- The reference's square: the first state by square roots. -/
namespace Go.Proofs.YtoeilaedpibboaaDoor
open Go.RowKit
set_option maxRecDepth 100000

def sqX (y : Int) (m : Nat) : Int := IntKind.u64.wrap (y + IntKind.u64.wrap (2 ^ m))
def sqLo (x : Int) : Int := bits BinOp.and IntKind.u64 x 4294967295
def sqMid (x : Int) : Int := IntKind.u64.wrap (IntKind.u64.wrap (IntKind.u64.wrap (2 * (x / 4294967296)) * sqLo x) + IntKind.u64.wrap (sqLo x * sqLo x) / 4294967296)
def sqTop (x : Int) : Int := IntKind.u64.wrap (IntKind.u64.wrap (x / 4294967296 * (x / 4294967296)) + sqMid x / 4294967296)
def sqRest (x : Int) : Int := bits BinOp.or IntKind.u64 (IntKind.u64.wrap (bits BinOp.and IntKind.u64 (sqMid x) 4294967295 * 4294967296)) (bits BinOp.and IntKind.u64 (IntKind.u64.wrap (sqLo x * sqLo x)) 4294967295)
def sqStep (p y : Int) (m : Nat) : Int := if p ≤ sqTop (sqX y m) then (if sqTop (sqX y m) = p then (if (sqRest (sqX y m) == 0) = true then sqX y m else y) else y) else sqX y m
/-- The root while the bits 35 down to m are tried. -/
def sqRun (p : Int) : Nat → Int → Int
  | 0, y => y
  | m + 1, y => sqRun p m (sqStep p y m)

theorem square_walk (p : Int) (w : World) :
    Calls Tryd.prog 71 #[.int .u64 p] w fun e w' => e = .returned (.int .u32 (IntKind.u32.wrap (sqRun p 36 0))) ∧ w = w' := by
  go_enter Tryd.func71, Tryd.ntmps71
  go_wp2
  go_loopw [3, 4] (fun x i wr => ∃ (m : Nat) (z y : Int), m ≤ 36 ∧ i = .int .i64 z ∧ z = (m : Int) - 1 ∧ x = .int .u64 y ∧ sqRun p m y = sqRun p 36 0 ∧ wr = w) (fun _ i _ => (intOf i + 1).toNat)
  case atStart => exact ⟨36, 35, 0, by omega, rfl, rfl, rfl, rfl, rfl⟩
  case round =>
    obtain ⟨m, z, y, hm, rfl, hz, rfl, hr, rfl⟩ := hrel
    have HR := Lib.hid hr
    clear hr
    cases m with
    | zero =>
      have : z = -1 := by omega
      subst this; clear hz
      go_wp2
      go_ret
      exact ⟨by rw [← HR.out]; rfl, rfl⟩
    | succ m =>
      have : z = (m : Int) := by omega
      subst this; clear hz
      have q1 : 0 ≤ (m : Int) := by omega
      have q2 : (m : Int) < 64 := by omega
      go_wp2
      all_goals
        refine ⟨⟨m, (m : Int) - 1, sqStep p y m, by omega, rfl, rfl, ?_, HR.out, ?_⟩, ?_⟩
        · unfold sqStep
          repeat' split
          all_goals first
            | rfl
            | contradiction
            | (have h1 : (sqRest (sqX y m) == 0) = false := by assumption
               have h2 : (sqRest (sqX y m) == 0) = true := by assumption
               rw [h1] at h2; cases h2)
        · trivial
        · simp [intOf]
theorem sqRun_iv : [2, 3, 5, 7, 11, 13, 17, 19].map (fun p => IntKind.u32.wrap (sqRun p 36 0)) = Sha.iv := by kernel_rfl
end Go.Proofs.YtoeilaedpibboaaDoor
/- Appending one integer after another; the reference's primes. -/
namespace Go.Proofs.YtoeilaedpibboaaDoor
open Go.RowKit
set_option maxRecDepth 100000

/-- A slice of the call's own, not nil, of just these integers. -/
def Own (w : World) (base : Nat) (e : TypeId) (k : IntKind) (v : Value) (xs : List Int) : Prop := ∃ g cap, v = .slice (some ⟨g, 0, none⟩) xs.length cap ∧ w.ownsRow base e 1 (.slice (some ⟨g, 0, none⟩) xs.length cap) xs.length (ints k xs)
theorem Own.empty (w : World) (base : Nat) (e : TypeId) (k : IntKind) (hb : base ≤ w.heap.size) : Own (w.alloc (.cells #[] e)) base e k (.slice (some ⟨w.heap.size, 0, none⟩) 0 0) [] :=
  ⟨w.heap.size, 0, rfl, World.ownsRow_made w #[] 0 hb (by unfold maxLen; omega) rfl⟩
theorem Own.cell {w : World} {base : Nat} {e : TypeId} {k : IntKind} {g n cap : Nat} {xs : List Int} (h : w.ownsRow base e 1 (.slice (some ⟨g, 0, none⟩) n cap) n (ints k xs)) {j : Nat} (hj : j < xs.length) : w.cell? ⟨g, j, none⟩ = some (.int k (xs.getD j 0)) := by
  have hn : n = xs.length := by have := h.1; rw [ints_length] at this; omega
  rw [h.cellAt j (by omega)]
  exact ints_getD hj
theorem Own.below {w w' : World} {base : Nat} {e : TypeId} {k : IntKind} {v : Value} {xs : List Int} (h : Own w base e k v xs) (hb : Below w.heap.size w w') : Own w' base e k v xs := by
  obtain ⟨g, cap, hv, ho⟩ := h
  exact ⟨g, cap, hv, ho.kept (row := none) ⟨hb.os, hb.tape, hb.output, hb.size, fun k hk _ => hb.block k hk⟩ (.inr (by simp [Value.ownBlock]))⟩

theorem wpList_append_one {P : Program} {w : World} {ops : Array Oper} {rest : List Oper} {o : Oper} {a : Act} {Q : Exit → Act → World → Prop} (hgd : o.guard = none) (s x : Operand) (t e : TypeId)
    (ho : o.op = .call { callee := .builtin .append, args := #[s, x], argTypes := #[t, t] }) (k : IntKind) (bytes : Nat) (ht : P.underlying t = some (.slice e)) (hinfo : (P.info? e).map (fun i => (i.zero, i.size, i.bytes)) = some (some (.int k 0), 1, bytes)) (hb8 : bytes ≤ 8)
    (base : Nat) (v : Value) (xs : List Int) (hs : a.eval s = v) (hown : Own w base e k v xs) (ad : Addr) (c : Nat) (z : Int) (hx : a.eval x = .slice (some ad) 1 c) (hz : w.cell? (ad.add 0) = some (.int k z)) (hb : xs.length ≤ 8000000000000) (hbase : base ≤ w.heap.size)
    (h : ∀ v' w', Own w' base e k v' (xs ++ [z]) → (∀ B u, Below B u w → B ≤ base → Below B u w') → wpList P ops Q rest (a.put o.dst v') w') : wpList P ops Q (o :: rest) a w := by
  obtain ⟨i0, hi, hz0, hz1, hz2⟩ := info_parts hinfo
  obtain ⟨g, cap, rfl, hown⟩ := hown
  have hbb : (xs.length + 1) * bytes ≤ (xs.length + 1) * 8 := Nat.mul_le_mul_left _ hb8
  refine wpList_append_own w hgd s x t ho base e i0 (.int k 0) 1 bytes ht hi hz0 hz1 hz2 rfl (by decide) _ _ _ hs hown ad 1 c [.int k z] hx rfl ?_ ?_ (by unfold maxLen; omega) (by omega) hbase ?_
  · intro j u hj
    match j, hj with
    | 0, hj => simp at hj; subst hj; exact hz
  · intro u hu; simp at hu; subst hu; rfl
  · intro v' w' h1 h2 h3
    have hl := hown.lt g rfl
    refine h v' w' ?_ fun B u hB hBb => hB.grown h2 (by omega) (fun k hk => by simp [Value.ownBlock] at hk; omega)
    have h1' : w'.ownsRow base e 1 v' (xs ++ [z]).length (ints k (xs ++ [z])) := by
      rw [List.length_append]; simpa [ints] using h1
    rcases id h1' with ⟨hle, ⟨rfl, _⟩ | ⟨g', cap', cur, rfl, rest⟩⟩
    · exact absurd (h3.1 rfl).2 (by omega)
    · exact ⟨g', cap', rfl, h1'⟩

def prRun (p : Nat) : Nat → Nat → Bool → Bool
  | 0, _, b => b
  | f + 1, q, b => if q * q ≤ p then prRun p f (q + 1) (if p % q = 0 then false else b) else b
def prAll (n : Nat) : Nat → Nat → List Int → List Int
  | 0, _, out => out
  | f + 1, p, out => if out.length < n then prAll n f (p + 1) (if prRun p 30 2 true then out ++ [(p : Int)] else out) else out
theorem prAll_8 : prAll 8 320 2 [] = [2, 3, 5, 7, 11, 13, 17, 19] := by kernel_rfl
theorem prAll_64 : (prAll 64 320 2 []).length = 64 := by kernel_rfl

set_option maxHeartbeats 1000000 in
theorem primes_walk (n : Nat) (hn : n ≤ 64) (hp : (prAll n 320 2 []).length = n) (w : World) :
    Calls Tryd.prog 69 #[.int .i64 n] w fun e w' => ∃ v, e = .returned v ∧ Own w' w.heap.size 85 .u64 v (prAll n 320 2 []) ∧ Below w.heap.size w w' := by
  have HP := Lib.hid hp
  clear hp
  go_enter Tryd.func69, Tryd.ntmps69
  go_wp2
  go_loopw [3, 4] (fun v i wr => ∃ (f p : Nat) (out : List Int), i = .int .u64 p ∧ p + f = 322 ∧ out.length ≤ n ∧ prAll n f p out = prAll n 320 2 [] ∧ Own wr w.heap.size 85 .u64 v out ∧ Below w.heap.size w wr) (fun _ i _ => 400 - (intOf i).toNat)
  case atStart => exact ⟨320, 2, [], rfl, rfl, by simp, rfl, Own.empty _ _ _ _ (Nat.le_refl _), (Below.refl _ _).alloc (Nat.le_refl _) _⟩
  case round =>
    obtain ⟨f, p, out, rfl, hf, hlen, hall, ⟨g, cap, rfl, hown⟩, hbel⟩ := hrel
    obtain ⟨len, el⟩ : ∃ len, Hid (len = out.length) := ⟨_, rfl⟩
    rw [← el.out] at hlen ⊢
    by_cases hlt : len < n
    · have q1 : (len : Int) < (n : Int) := by omega
      cases f with
      | zero =>
        exfalso
        have := HP.out
        rw [← hall, prAll, ← el.out] at this
        omega
      | succ f =>
        rw [prAll, ← el.out, if_pos hlt] at hall
        have HALL := Lib.hid hall
        have HOWN := Lib.hid hown
        have HBEL := Lib.hid hbel
        clear hall hown hbel
        have hp1 : p ≤ 321 := by omega
        go_wp2
        go_loopw [5, 6] (fun b i w2 => ∃ (f2 q : Nat) (bb : Bool), b = .bool bb ∧ i = .int .u64 q ∧ q + f2 = 32 ∧ 2 ≤ q ∧ prRun p f2 q bb = prRun p 30 2 true ∧ w2 = wr) (fun _ i _ => 40 - (intOf i).toNat)
        case atStart => exact ⟨30, 2, true, rfl, rfl, rfl, by omega, rfl, rfl⟩
        case round =>
          obtain ⟨f2, q, bb, rfl, rfl, hf2, hq2, hrun, rfl⟩ := hrel
          have hsq : q * q ≤ 32 * 32 := Nat.mul_le_mul (by omega) (by omega)
          have hcast : ((q * q : Nat) : Int) = (q : Int) * (q : Int) := Int.natCast_mul _ _
          have e1 : IntKind.u64.wrap ((q : Int) * (q : Int)) = (q : Int) * (q : Int) := IntWalk.u64_in _ (by omega)
          by_cases hq : q * q ≤ p
          · have hq17 : q ≤ 17 := by
              apply Decidable.byContradiction
              intro h
              have := Nat.mul_le_mul (show 18 ≤ q by omega) (show 18 ≤ q by omega)
              omega
            have c1 : (q : Int) * (q : Int) ≤ (p : Int) := by omega
            have c2 : (q : Int) ≠ 0 := by omega
            obtain ⟨f3, rfl⟩ : ∃ f3, f2 = f3 + 1 := ⟨f2 - 1, by omega⟩
            rw [prRun, if_pos hq] at hrun
            have HRUN := Lib.hid hrun
            clear hrun hsq hcast
            by_cases hd : p % q = 0
            · have hdi : ((p : Int) % (q : Int) == 0) = true := by rw [← Int.natCast_emod, hd]; rfl
              rw [if_pos hd] at HRUN
              go_wp2
              exact ⟨⟨f3, q + 1, false, rfl, by simp, by omega, by omega, HRUN.out, trivial⟩, by simp [intOf]; omega⟩
            · have hdi : ((p : Int) % (q : Int) == 0) = false := by rw [← Int.natCast_emod]; simpa using (by omega : ¬ ((p % q : Nat) : Int) = 0)
              rw [if_neg hd] at HRUN
              go_wp2
              exact ⟨⟨f3, q + 1, bb, rfl, by simp, by omega, by omega, HRUN.out, trivial⟩, by simp [intOf]; omega⟩
          · have c1 : ¬ (q : Int) * (q : Int) ≤ (p : Int) := by omega
            have hbb : bb = prRun p 30 2 true := by
              rw [← hrun]
              cases f2 with
              | zero => rfl
              | succ f2 => rw [prRun, if_neg hq]
            clear hrun hsq hcast
            rw [← hbb] at HALL
            clear hbb
            cases bb with
            | false =>
              go_wp2
              refine ⟨⟨f, p + 1, out, by simp, by omega, by rw [← el.out]; omega, by simpa using HALL.out, ⟨g, cap, by rw [el.out], HOWN.out⟩, HBEL.out⟩, by simp [intOf]; omega⟩
            | true =>
              have HOW : Hid (Own (wr.alloc (.cells #[.int .u64 p] 85)) w.heap.size 85 .u64 (.slice (some ⟨g, 0, none⟩) len cap) out) := ⟨g, cap, by rw [el.out], HOWN.out.alloc _⟩
              have HB2 : Hid (Below w.heap.size w (wr.alloc (.cells #[.int .u64 p] 85))) := HBEL.out.alloc HBEL.out.size _
              go_wp2_with (with_reducible refine wpList_append_one (o := ⟨some 29, _, _, _, _, _⟩) ?a1 (.tmp 26) (.tmp 28) 96 85 ?a2 .u64 8 Tryd.underlying96 infoU64 (by decide) w.heap.size (.slice (some ⟨g, 0, none⟩) len cap) out ?a3 HOW.out ⟨wr.heap.size, 0, none⟩ 1 (p : Int) ?a4 ?a5 ?a6 ?a7 ?_)
              case a1 => rfl
              case a2 => rfl
              case a6 => rw [← el.out]; omega
              case a7 => exact Nat.le_succ_of_le HBEL.out.size
              intro v' w3 ho3 hb3
              have HO3 := Lib.hid ho3
              have HB3 := Lib.hid (hb3 _ _ HB2.out (Nat.le_refl _))
              clear ho3 hb3 HOW HB2 HOWN HBEL
              go_wp2
              refine ⟨⟨f, p + 1, out ++ [(p : Int)], by simp, by omega, by simp; rw [← el.out]; omega, by simpa using HALL.out, HO3.out, HB3.out⟩, by simp [intOf]; omega⟩
    · have q1 : ¬ (len : Int) < (n : Int) := by omega
      have hfin : out = prAll n 320 2 [] := by
        rw [← hall]
        cases f with
        | zero => rfl
        | succ f => rw [prAll, ← el.out, if_neg hlt]
      have HO : Hid (Own wr w.heap.size 85 .u64 (.slice (some ⟨g, 0, none⟩) len cap) (prAll n 320 2 [])) := by rw [← hfin]; exact ⟨g, cap, by rw [el.out], hown⟩
      have HB := Lib.hid hbel
      clear hfin hall hown hbel
      go_wp2
      go_ret
      exact ⟨_, rfl, HO.out, HB.out⟩
end Go.Proofs.YtoeilaedpibboaaDoor
/- The reference's First. -/
namespace Go.Proofs.YtoeilaedpibboaaDoor
open Go.RowKit
set_option maxRecDepth 100000

def sqW (p : Int) : Int := IntKind.u32.wrap (sqRun p 36 0)
def fiTo (ps : List Int) : Nat → List Int
  | 0 => List.replicate 8 0
  | k + 1 => (fiTo ps k).set k (sqW (ps[k]?.getD 0))
theorem fiTo_length (ps : List Int) (k : Nat) : (fiTo ps k).length = 8 := by
  induction k with
  | zero => simp [fiTo]
  | succ k ih => simp [fiTo, ih]
theorem fiTo_iv : fiTo [2, 3, 5, 7, 11, 13, 17, 19] 8 = Sha.iv := by kernel_rfl
structure Fi (w wr : World) (B g cap : Nat) (ps : List Int) (xs : List Int) : Prop where
  r : Blk wr w.heap.size 68 (ints .u32 (List.replicate 8 0))
  o : Blk wr B 68 (ints .u32 xs)
  p : wr.ownsRow (w.heap.size + 1) 85 1 (.slice (some ⟨g, 0, none⟩) 8 cap) 8 (ints .u64 ps)
  bel : Below w.heap.size w wr
  gB : g < B
  rB : w.heap.size < B
theorem Fi.set {w wr : World} {B g cap : Nat} {ps xs : List Int} (h : Fi w wr B g cap ps xs) (i : Nat) (v : Int) : Fi w (wr.setCell ⟨B, i, none⟩ (.int .u32 v)) B g cap ps (xs.set i v) := by
  have h1 := h.gB
  have h2 := h.rB
  refine ⟨h.r.other (by show _ ≠ B; omega) _, ?_, ?_, h.bel.setCell (by show _ ≤ B; omega) _, h1, h2⟩
  · have := h.o.set i (.int .u32 v); rwa [ints_set] at this
  · exact h.p.kept (row := some B) ⟨rfl, rfl, rfl, by simp, fun k _ hk => heap_setCell_other wr ⟨B, i, none⟩ k _ (fun e => hk (by simp [e]))⟩ (.inr (by simp [Value.ownBlock]; omega))

set_option maxHeartbeats 1000000 in
theorem rfirst_walk (w : World) :
    Calls Tryd.prog 60 #[] w fun e w' => e = .returned (.agg (ints .u32 Sha.iv).toArray) ∧ Below w.heap.size w w' := by
  go_enter Tryd.func60, Tryd.ntmps60
  go_wp2_with fail
  refine (primes_walk 8 (by omega) (by rw [prAll_8]; rfl) _).mono ?_
  rintro e w1 ⟨v, rfl, ⟨g, cap, rfl, hown⟩, hbel⟩
  obtain ⟨ps, eps⟩ : ∃ ps : List Int, Hid (ps = [2, 3, 5, 7, 11, 13, 17, 19]) := ⟨_, rfl⟩
  rw [prAll_8, ← eps.out] at hown ⊢
  have hpl : ps.length = 8 := by rw [eps.out]; rfl
  rw [hpl] at hown ⊢
  have HPL := Lib.hid hpl
  have HG := hown.lt g rfl
  have HF : Hid (Fi w (w1.alloc (.cells (ints .u32 (List.replicate 8 0)).toArray 68)) w1.heap.size g cap ps (fiTo ps 0)) := by
    have hsz := hbel.size
    refine ⟨((Blk.new2 w 68 _ (ints .u32 (List.replicate 8 0)) _ rfl (by kernel_rfl)).below hbel (by simp)).alloc _, Blk.new _ _ _, ?_, ?_, HG.2, by simp at hsz; omega⟩
    · have := hown.alloc (.cells (ints .u32 (List.replicate 8 0)).toArray 68); simpa using this
    · refine Below.alloc ?_ (by simp at hsz; omega) _
      exact ((Below.refl _ _).alloc (Nat.le_refl _) _).trans (hbel.mono (by simp))
  clear hown hbel HG hpl
  go_wp2
  go_loopw [3] (fun i wr => ∃ k : Nat, k ≤ 8 ∧ i = .int .i64 k ∧ Fi w wr w1.heap.size g cap ps (fiTo ps k)) (fun i _ => 8 - (intOf i).toNat)
  case atStart => exact ⟨0, by omega, rfl, HF.out⟩
  case round =>
    obtain ⟨k, hk, rfl, hf⟩ := hrel
    clear HF
    by_cases hlt : k < 8
    · have q1 : (k : Int) < 8 := by omega
      have c1 := Own.cell hf.p (j := k) (by rw [HPL.out]; omega)
      have c2 := hf.o.cell (ints_getD (k := .u32) (j := k) (by rw [fiTo_length]; omega))
      have fr := hf.o.free k
      have HF := Lib.hid hf
      clear hf
      go_wp2_with fail
      refine (square_walk _ _).mono ?_
      rintro e w2 ⟨rfl, rfl⟩
      change Hid _ at HF
      go_wp2
      go_roundw
      case rel => exact ⟨k + 1, by omega, by go_num, HF.out.set k _⟩
      case measure => simp [intOf]; omega
    · have HM : Hid (Fi w wr w1.heap.size g cap ps Sha.iv) := by
        have e : k = 8 := by omega
        subst e
        rw [eps.out, fiTo_iv, ← eps.out] at hf
        exact hf
      have q1 : ¬ (k : Int) < 8 := by omega
      clear hf
      go_wp2_with (first
        | (refine wpList_load_row rfl 68 _ rfl w1.heap.size rfl 68 (ints .u32 Sha.iv).toArray (0, 0) _ HM.out.o Tryd.underlying68 rfl infoState ?_)
        | (refine wpList_store_whole rfl 68 _ _ rfl w.heap.size (ints .u32 Sha.iv) rfl rfl 68 (ints .u32 (List.replicate 8 0)) HM.out.r rfl infoState (ints_oneCell _ _) ?_))
      intro w3 hw3 hup _
      refine wpList_nil ?_
      go_wp2
      have hbl := hup.below HM.out.bel (by omega) HM.out.bel.size
      refine bodyPost_ret (v := .agg (ints .u32 Sha.iv).toArray) ?_ rfl ⟨rfl, hbl⟩
      refine results_cell_row (g := w.heap.size) (t := 68) (cs := (ints .u32 Sha.iv).toArray) (fr := (0, 0)) Tryd.results60 _ _ _ ?_ ?_ Tryd.underlying68 rfl infoState
      · rfl
      · exact hw3
end Go.Proofs.YtoeilaedpibboaaDoor
/- The reference's below and cube. -/
namespace Go.Proofs.YtoeilaedpibboaaDoor
open Go.RowKit
set_option maxRecDepth 100000

theorem Own.of_blk {w : World} {base b : Nat} {e : TypeId} {k : IntKind} {xs : List Int} (h : Blk w b e (ints k xs)) (hb : base ≤ b) (hm : xs.length ≤ 1000) : w.ownsRow base e 1 (.slice (some ⟨b, 0, none⟩) xs.length xs.length) xs.length (ints k xs) :=
  ⟨by rw [ints_length]; omega, .inr ⟨b, xs.length, _, rfl, hb, h, Nat.le_refl _, by unfold maxLen; omega, by simp [ints_length], by rw [List.take_of_length_le (by simp [ints_length])]⟩⟩
theorem wpList_append_at {P : Program} {w : World} {ops : Array Oper} {rest : List Oper} {o : Oper} {a : Act} {Q : Exit → Act → World → Prop} (hgd : o.guard = none) (s x : Operand) (t e : TypeId)
    (ho : o.op = .call { callee := .builtin .append, args := #[s, x], argTypes := #[t, t] }) (k : IntKind) (bytes : Nat) (ht : P.underlying t = some (.slice e)) (hinfo : (P.info? e).map (fun i => (i.zero, i.size, i.bytes)) = some (some (.int k 0), 1, bytes)) (hb8 : bytes ≤ 8)
    (base : Nat) (g n cap : Nat) (xs : List Int) (hs : a.eval s = .slice (some ⟨g, 0, none⟩) n cap) (hown : w.ownsRow base e 1 (.slice (some ⟨g, 0, none⟩) n cap) n (ints k xs)) (ad : Addr) (c : Nat) (z : Int) (hx : a.eval x = .slice (some ad) 1 c) (hz : w.cell? (ad.add 0) = some (.int k z)) (hb : n ≤ 8000000000000) (hbase : base ≤ w.heap.size)
    (h : ∀ g' cap' w', w'.ownsRow base e 1 (.slice (some ⟨g', 0, none⟩) (n + 1) cap') (n + 1) (ints k (xs ++ [z])) → w.grownBy w' (some g) → (g' = g ∨ g' = w.heap.size) → g' < w'.heap.size → wpList P ops Q rest (a.put o.dst (.slice (some ⟨g', 0, none⟩) (n + 1) cap')) w') : wpList P ops Q (o :: rest) a w := by
  obtain ⟨i0, hi, hz0, hz1, hz2⟩ := info_parts hinfo
  have hbb : (n + 1) * bytes ≤ (n + 1) * 8 := Nat.mul_le_mul_left _ hb8
  refine wpList_append_lies w hgd s x t ho base e i0 (.int k 0) 1 bytes ht hi hz0 hz1 hz2 rfl (by decide) _ _ _ hs hown ad 1 c [.int k z] hx rfl ?_ ?_ (by decide) (by unfold maxLen; omega) (by omega) hbase _ rfl ?_
  · intro j u hj
    match j, hj with
    | 0, hj => simp at hj; subst hj; exact hz
  · intro u hu; simp at hu; subst hu; rfl
  · intro g' cap' w' h1 h2 h3 h4
    refine h g' cap' w' (by simpa [ints] using h1) h2 ?_ h4
    rcases h3 with h3 | h3
    · simp [Value.ownBlock] at h3; exact .inl h3.symm
    · exact .inr h3

def lenOf' : Value → Nat
  | .slice _ n _ => n
  | _ => 0
def beD (y : Int) : List Int := [bits BinOp.and IntKind.u64 y 65535, bits BinOp.and IntKind.u64 (y / 65536) 65535, y / 4294967296]
def beS (y : Int) : List Int := tmOuter (tmOuter (beD y) (beD y) 3) (beD y) 6
def beW (p : Int) : List Int := (List.replicate 16 0).set 6 p
def beCmp (ss ws : List Int) : Nat → Bool
  | 0 => true
  | m + 1 => if ss[m]?.getD 0 = ws[m]?.getD 0 then beCmp ss ws m else decide (ss[m]?.getD 0 < ws[m]?.getD 0)
def beF (y p : Int) : Bool := beCmp (beS y ++ List.replicate 7 0) (beW p) 16
theorem beS_eq (y : Int) : tmOuter (tmOuter (beD y) (beD y) 3) (beD y) 6 = beS y := by rw [beS]
theorem beD_length (y : Int) : (beD y).length = 3 := rfl
theorem be1_length (y : Int) : (tmOuter (beD y) (beD y) 3).length = 6 := by rw [tmOuter_length]; rfl
theorem beS_length (y : Int) : (beS y).length = 9 := by rw [beS, tmOuter_length, be1_length]; rfl
attribute [local irreducible] tmOuter beS
set_option maxHeartbeats 400000 in
theorem below_walk (y p : Int) (w : World) :
    Calls Tryd.prog 79 #[.int .u64 y, .int .u64 p] w fun e w' => e = .returned (.bool (beF y p)) ∧ Below w.heap.size w w' := by
  have hl1 := be1_length y
  have hl2 := beS_length y
  have HS : Hid (tmOuter (tmOuter (beD y) (beD y) 3) (beD y) 6 = beS y) := beS_eq y
  have H3 : Hid ((beD y).length = 3) := beD_length y
  have HL1 := Lib.hid hl1
  have HL2 := Lib.hid hl2
  clear hl1 hl2
  have HD : Hid (Blk (w.alloc (.cells (ints .u64 (beD y)).toArray 85)) w.heap.size 85 (ints .u64 (beD y))) := Blk.new _ _ _
  have HBE0 : Hid (Below w.heap.size w (w.alloc (.cells (ints .u64 (beD y)).toArray 85))) := (Below.refl _ _).alloc (Nat.le_refl _) _
  go_enter Tryd.func79, Tryd.ntmps79
  go_wp2_with fail
  refine (times_walk w.heap.size w.heap.size (beD y) (beD y) (by rw [H3.out]; omega) (by rw [H3.out]; omega) (w.alloc (.cells (ints .u64 (beD y)).toArray 85)) HD.out HD.out 3 3).mono ?_
  rintro e w1 ⟨b1, hb1, rfl, hB1, hBe1⟩
  have HD1 := Lib.hid (HD.out.below hBe1 (by simp))
  have HBE1 := Lib.hid (HBE0.out.trans (hBe1.mono (by simp)))
  clear HD HBE0 hb1 hBe1
  rw [H3.out] at hB1 ⊢
  generalize tmOuter (beD y) (beD y) 3 = s1 at hB1 HL1 HS ⊢
  generalize beD y = d at HD1 HS H3
  rw [HL1.out]
  have HB1 := Lib.hid hB1
  clear hB1
  go_wp2_with fail
  have ht := times_walk b1 w.heap.size s1 d (by rw [HL1.out]; omega) (by rw [H3.out]; omega) w1 HB1.out HD1.out 6 3
  rw [HL1.out, H3.out, HS.out] at ht
  refine ht.mono ?_
  rintro e w2 ⟨b2, hb2, rfl, hB2, hBe2⟩
  rw [HL2.out]
  have hw1 := HBE1.out.size
  have HOWN : Hid (w2.ownsRow w.heap.size 85 1 (.slice (some ⟨b2, 0, none⟩) 9 9) 9 (ints .u64 (beS y))) := by
    have := Own.of_blk (base := w.heap.size) hB2 (by omega) (by rw [HL2.out]; omega)
    rwa [HL2.out] at this
  have HBE2 := Lib.hid (HBE1.out.trans (hBe2.mono hw1))
  have HB2 := Lib.hid hB2.lt
  clear HD1 HBE1 hb2 hBe2 hB2 HB1 hw1 HL1 H3 HS ht
  go_wp2_with (refine wpList_make_blk _ rfl _ _ 96 rfl 85 (.int .u64 0) 8 Tryd.underlying96 infoU64 rfl _ _ _ _ 16 rfl rfl ?c1 ?c2 (by omega) (by omega) ?_)
  case c1 => rfl
  case c2 => rfl
  intro w3 hb3 hbel3 hsz3
  have HW : Hid (Blk w3 w2.heap.size 85 (ints .u64 (List.replicate 16 0))) := hb3
  have HBE3 : Hid (Below w.heap.size w w3) := HBE2.out.trans (hbel3.mono HBE2.out.size)
  have HO3 : Hid (w3.ownsRow w.heap.size 85 1 (.slice (some ⟨b2, 0, none⟩) 9 9) 9 (ints .u64 (beS y))) := HOWN.out.kept (row := none) ⟨hbel3.os, hbel3.tape, hbel3.output, hbel3.size, fun k hk _ => hbel3.block k hk⟩ (.inr (by simp [Value.ownBlock]))
  have cw : w3.cell? ⟨w2.heap.size, 6, none⟩ = some (.int .u64 0) := HW.out.cell rfl
  have fw := HW.out.free 6
  clear hb3 hbel3 hsz3 HOWN
  have HW4 : Hid (Blk (w3.setCell ⟨w2.heap.size, 6, none⟩ (.int .u64 p)) w2.heap.size 85 (ints .u64 (beW p))) := by
    have := HW.out.set 6 (.int .u64 p); rwa [ints_set] at this
  have HBE4 : Hid (Below w.heap.size w (w3.setCell ⟨w2.heap.size, 6, none⟩ (.int .u64 p))) := HBE3.out.setCell HBE2.out.size _
  have HO4 : Hid ((w3.setCell ⟨w2.heap.size, 6, none⟩ (.int .u64 p)).ownsRow w.heap.size 85 1 (.slice (some ⟨b2, 0, none⟩) 9 9) 9 (ints .u64 (beS y))) :=
    HO3.out.kept (row := some w2.heap.size) ⟨rfl, rfl, rfl, by simp, fun k _ hk => heap_setCell_other w3 ⟨w2.heap.size, 6, none⟩ k _ (fun e => hk (by simp [e]))⟩ (.inr (by have := HB2.out; simp [Value.ownBlock]; omega))
  go_wp2
  clear HW HBE3 HO3 cw fw
  go_loopw [6] (fun v wr => ∃ (k g cap : Nat), k ≤ 7 ∧ v = .slice (some ⟨g, 0, none⟩) (9 + k) cap ∧ g ≠ w2.heap.size ∧ wr.ownsRow w.heap.size 85 1 (.slice (some ⟨g, 0, none⟩) (9 + k) cap) (9 + k) (ints .u64 (beS y ++ List.replicate k 0)) ∧ Blk wr w2.heap.size 85 (ints .u64 (beW p)) ∧ Below w.heap.size w wr) (fun v _ => 16 - lenOf' v)
  case atStart => exact ⟨0, b2, 9, by omega, rfl, by have := HB2.out; omega, by simpa using HO4.out, HW4.out, HBE4.out⟩
  case round =>
    obtain ⟨k, g, cap, hk, rfl, hg, hown, hbl, hbel⟩ := hrel
    clear HW4 HBE4 HO4
    obtain ⟨len, el⟩ : ∃ len, Hid (len = 9 + k) := ⟨_, rfl⟩
    rw [← el.out] at hown ⊢
    have el' := el.out
    by_cases hlt : k < 7
    · have q1 : (len : Int) < 16 := by omega
      have HO : Hid ((wr.alloc (.cells #[.int .u64 0] 85)).ownsRow w.heap.size 85 1 (.slice (some ⟨g, 0, none⟩) len cap) len (ints .u64 (beS y ++ List.replicate k 0))) := hown.alloc _
      have HBL := Lib.hid (hbl.alloc (.cells #[.int .u64 0] 85))
      have HBE := Lib.hid (hbel.alloc hbel.size (.cells #[.int .u64 0] 85))
      have HG := Lib.hid hg
      have HSZ := Lib.hid hbel.size
      have HLT := Lib.hid hbl.lt
      have HGL := Lib.hid (hown.lt g rfl)
      clear hown hbl hbel hg el'
      go_wp2_with (with_reducible refine wpList_append_at (o := ⟨some 36, _, _, _, _, _⟩) ?a1 (.tmp 34) (.tmp 35) 96 85 ?a2 .u64 8 Tryd.underlying96 infoU64 (by decide) w.heap.size g len cap (beS y ++ List.replicate k 0) ?a3 HO.out ⟨wr.heap.size, 0, none⟩ 1 0 ?a4 ?a5 ?a6 ?a7 ?_)
      case a1 => rfl
      case a2 => rfl
      case a3 => rfl
      case a4 => rfl
      case a5 => simp [Addr.add]
      case a6 => have := el.out; omega
      case a7 => exact HBE.out.size
      intro g' cap' w5 ho5 hg5 hat5 hlt5
      have HO5 : Hid (w5.ownsRow w.heap.size 85 1 (.slice (some ⟨g', 0, none⟩) (9 + (k + 1)) cap') (9 + (k + 1)) (ints .u64 (beS y ++ List.replicate (k + 1) 0))) := by
        rw [← List.replicate_succ', el.out] at ho5
        exact ho5
      have HG5 : Hid (g' ≠ w2.heap.size) := by
        have h1 := HG.out
        have h2 := HLT.out
        rcases hat5 with h | h
        · show g' ≠ w2.heap.size; omega
        · show g' ≠ w2.heap.size; omega
      have HBL5 : Hid (Blk w5 w2.heap.size 85 (ints .u64 (beW p))) := by
        have h2 := HBL.out.lt
        show w5.heap[w2.heap.size]? = _
        rw [hg5.block _ h2 (by have := HG.out; simp; omega)]
        exact HBL.out
      have HBE5 : Hid (Below w.heap.size w w5) := HBE.out.grown hg5 HBE.out.size (fun j hj => by have := HGL.out; simp at hj; omega)
      have EL := el.out
      clear ho5 hg5 hat5 hlt5 HO HBL HBE HG HSZ HLT HGL
      go_wp2
      refine ⟨⟨k + 1, g', cap', by omega, by rw [EL]; rfl, HG5.out, HO5.out, HBL5.out, HBE5.out⟩, ?_⟩
      simp [lenOf']; omega
    · have q1 : ¬ (len : Int) < 16 := by omega
      have ek : k = 7 := by omega
      subst ek
      have e16 : len = 16 := by omega
      subst e16
      clear el el' q1 hlt hk
      have HO := Lib.hid hown
      have HBL := Lib.hid hbl
      have HBE := Lib.hid hbel
      clear hown hbl hbel
      obtain ⟨ss, es⟩ : ∃ ss, Hid (beS y ++ List.replicate 7 0 = ss) := ⟨_, Lib.hid rfl⟩
      obtain ⟨ws, ew⟩ : ∃ ws, Hid (beW p = ws) := ⟨_, Lib.hid rfl⟩
      have hsl : Hid (ss.length = 16) := by unfold Hid; rw [← es.out, List.length_append, HL2.out, List.length_replicate]
      have hwl : Hid (ws.length = 16) := by unfold Hid; rw [← ew.out]; simp [beW]
      have HF : Hid (beCmp ss ws 16 = beF y p) := by unfold Hid; rw [← es.out, ← ew.out]; rfl
      rw [es.out] at HO
      rw [ew.out] at HBL
      go_wp2
      go_loopw [8] (fun i wz => ∃ (m : Nat) (z : Int), m ≤ 16 ∧ i = .int .i64 z ∧ z = (m : Int) - 1 ∧ beCmp ss ws m = beF y p ∧ ∃ nd, wz = wr.drewN nd) (fun i _ => (intOf i + 1).toNat)
      case atStart => exact ⟨16, 15, by omega, rfl, rfl, HF.out, 0, rfl⟩
      case round =>
        obtain ⟨m, z, hm, rfl, hz, hc, nd, rfl⟩ := hrel
        cases m with
        | zero =>
          have : z = -1 := by omega
          subst this; clear hz
          have HC := Lib.hid hc
          clear hc
          go_wp2
          go_ret
          refine ⟨by rw [← HC.out]; rfl, HBE.out.trans ((below_drewN _ nd).mono HBE.out.size)⟩
        | succ m =>
          have : z = (m : Int) := by omega
          subst this; clear hz
          have q1 : 0 ≤ (m : Int) := by omega
          have q2 : (m : Int) < 16 := by omega
          have c1 : wr.cell? ⟨g, m, none⟩ = _ := Own.cell HO.out (j := m) (by rw [hsl.out]; omega)
          have c2 : wr.cell? ⟨w2.heap.size, m, none⟩ = _ := HBL.out.cell (ints_getD (k := .u64) (j := m) (by rw [hwl.out]; omega))
          have HC : Hid ((if ss.getD m 0 = ws.getD m 0 then beCmp ss ws m else decide (ss.getD m 0 < ws.getD m 0)) = beF y p) := by unfold Hid; rw [← hc]; simp [beCmp]
          clear hc
          generalize ss.getD m 0 = x at *
          generalize ws.getD m 0 = x2 at *
          by_cases hx : x = x2
          · subst hx
            have hxx : (x != x) = false := by simp
            rw [if_pos rfl] at HC
            go_wp2
            go_quiet (fail)
            go_wp2
            go_roundw
            case rel => exact ⟨m, _, by omega, rfl, rfl, HC.out, nd + nq, by simp [World.drewN]⟩
            case measure => simp [intOf]
          · have hxx : (x != x2) = true := by simpa using hx
            rw [if_neg hx] at HC
            go_wp2
            go_quiet (fail)
            go_wp2
            go_quiet (fail)
            go_wp2
            go_ret
            exact ⟨by rw [← HC.out]; rfl, ⟨HBE.out.os, HBE.out.tape, HBE.out.output, HBE.out.size, HBE.out.block⟩⟩
end Go.Proofs.YtoeilaedpibboaaDoor
/- The reference's cube and constants. -/
namespace Go.Proofs.YtoeilaedpibboaaDoor
open Go.RowKit
set_option maxRecDepth 100000

def cuX (y : Int) (m : Nat) : Int := IntKind.u64.wrap (y + IntKind.u64.wrap (2 ^ m))
def cuStep (p y : Int) (m : Nat) : Int := if beF (cuX y m) p = true then cuX y m else y
def cuRun (p : Int) : Nat → Int → Int
  | 0, y => y
  | m + 1, y => cuRun p m (cuStep p y m)
def cuW (p : Int) : Int := IntKind.u32.wrap (cuRun p 35 0)

set_option maxHeartbeats 400000 in
theorem cube_walk (p : Int) (w : World) :
    Calls Tryd.prog 70 #[.int .u64 p] w fun e w' => e = .returned (.int .u32 (cuW p)) ∧ Below w.heap.size w w' := by
  go_enter Tryd.func70, Tryd.ntmps70
  go_wp2
  go_loopw [3, 4] (fun x i wr => ∃ (m : Nat) (z y : Int), m ≤ 35 ∧ i = .int .i64 z ∧ z = (m : Int) - 1 ∧ x = .int .u64 y ∧ cuRun p m y = cuRun p 35 0 ∧ Below w.heap.size w wr) (fun _ i _ => (intOf i + 1).toNat)
  case atStart => exact ⟨35, 34, 0, by omega, rfl, rfl, rfl, rfl, Below.refl _ _⟩
  case round =>
    obtain ⟨m, z, y, hm, rfl, hz, rfl, hr, hbel⟩ := hrel
    have HR := Lib.hid hr
    have HB := Lib.hid hbel
    clear hr hbel
    cases m with
    | zero =>
      have : z = -1 := by omega
      subst this; clear hz
      go_wp2
      go_ret
      exact ⟨by rw [cuW, ← HR.out]; rfl, HB.out⟩
    | succ m =>
      have : z = (m : Int) := by omega
      subst this; clear hz
      have q1 : 0 ≤ (m : Int) := by omega
      have q2 : (m : Int) < 64 := by omega
      go_wp2_with fail
      refine (below_walk (cuX y m) p _).mono ?_
      rintro e w1 ⟨rfl, hb1⟩
      have HB1 := Lib.hid (HB.out.trans (hb1.mono HB.out.size))
      clear hb1 HB
      by_cases hbf : beF (cuX y m) p = true
      · have HR2 : Hid (cuRun p m (cuX y m) = cuRun p 35 0) := by
          have := HR.out
          rw [cuRun, cuStep, if_pos hbf] at this
          exact this
        rw [hbf]
        clear hbf HR
        go_wp2
        exact ⟨⟨m, (m : Int) - 1, cuX y m, by omega, rfl, rfl, rfl, HR2.out, HB1.out⟩, by simp [intOf]⟩
      · have HR2 : Hid (cuRun p m y = cuRun p 35 0) := by
          have := HR.out
          rw [cuRun, cuStep, if_neg hbf] at this
          exact this
        rw [show beF (cuX y m) p = false by simpa using hbf]
        clear hbf HR
        go_wp2
        exact ⟨⟨m, (m : Int) - 1, y, by omega, rfl, rfl, rfl, HR2.out, HB1.out⟩, by simp [intOf]⟩

theorem infoU32 : (Tryd.prog.info? 67).map (fun i => (i.zero, i.size, i.bytes)) = some (some (.int .u32 0), 1, 4) := by kernel_rfl
def coTo (ps : List Int) : Nat → List Int
  | 0 => []
  | k + 1 => coTo ps k ++ [cuW (ps[k]?.getD 0)]
theorem coTo_length (ps : List Int) (k : Nat) : (coTo ps k).length = k := by
  induction k with
  | zero => rfl
  | succ k ih => simp [coTo, ih]
set_option maxHeartbeats 1000000 in
theorem constants_any (ps : List Int) (hps : Hid (prAll 64 320 2 [] = ps)) (hpl : ps.length = 64) (w : World) :
    Calls Tryd.prog 59 #[] w fun e w' => ∃ v, e = .returned v ∧ Own w' w.heap.size 67 .u32 v (coTo ps 64) ∧ Below w.heap.size w w' := by
  have HPL := Lib.hid hpl
  clear hpl
  go_enter Tryd.func59, Tryd.ntmps59
  go_wp2_with fail
  refine (primes_walk 64 (by omega) prAll_64 _).mono ?_
  rintro e w1 ⟨v, rfl, ⟨g, cap, rfl, hown⟩, hbel⟩
  rw [hps.out] at hown ⊢
  rw [HPL.out] at hown ⊢
  have HG := Lib.hid (hown.lt g rfl).2
  have HO := Lib.hid hown
  have HB := Lib.hid hbel
  clear hown hbel
  go_wp2
  go_loopw [2, 3] (fun v i wr => ∃ k : Nat, k ≤ 64 ∧ i = .int .i64 k ∧ Own wr w1.heap.size 67 .u32 v (coTo ps k) ∧ Below w1.heap.size w1 wr) (fun _ i _ => 64 - (intOf i).toNat)
  case atStart => exact ⟨0, by omega, rfl, Own.empty _ _ _ _ (Nat.le_refl _), (Below.refl _ _).alloc (Nat.le_refl _) _⟩
  case round =>
    obtain ⟨k, hk, rfl, hv, hbel⟩ := hrel
    by_cases hlt : k < 64
    · have q1 : (k : Int) < 64 := by omega
      have c1 : wr.cell? ⟨g, k, none⟩ = some (.int .u64 (ps.getD k 0)) := by
        rw [hbel.cell (p := ⟨g, k, none⟩) HG.out]; exact Own.cell HO.out (by rw [HPL.out]; omega)
      have HV := Lib.hid hv
      have HBE := Lib.hid hbel
      clear hv hbel
      go_wp2_with fail
      refine (cube_walk _ _).mono ?_
      rintro e w2 ⟨rfl, hb2⟩
      obtain ⟨xs, hxs⟩ : ∃ xs, Hid (xs = coTo ps k) := ⟨_, rfl⟩
      have HL : Hid (xs.length = k) := by unfold Hid; rw [hxs.out, coTo_length]
      rw [← hxs.out] at HV
      have HV2 := Lib.hid ((HV.out.below hb2).below ((Below.refl w2.heap.size w2).alloc (Nat.le_refl _) (.cells #[.int .u32 (cuW (ps[k]?.getD 0))] 67)))
      have HB2 := Lib.hid ((HBE.out.trans (hb2.mono HBE.out.size)).alloc (Nat.le_trans HBE.out.size hb2.size) (.cells #[.int .u32 (cuW (ps[k]?.getD 0))] 67))
      have HSZ := Lib.hid (Nat.le_trans HBE.out.size hb2.size)
      obtain ⟨nxt, hnx⟩ : ∃ z, Hid (z = cuW (ps[k]?.getD 0)) := ⟨_, rfl⟩
      have HNX : Hid (coTo ps (k + 1) = xs ++ [nxt]) := by
        unfold Hid; rw [coTo, hxs.out, hnx.out]
      rw [← hnx.out] at HV2 HB2 ⊢
      obtain ⟨g2, c2, rfl, -⟩ := id HV.out
      rw [HL.out] at HV2 ⊢
      clear hb2 HV HBE c1
      go_wp2_with (with_reducible refine wpList_append_one (o := ⟨some 17, _, _, _, _, _⟩) ?a1 (.tmp 10) (.tmp 16) 86 67 ?a2 .u32 4 Tryd.underlying86 infoU32 (by decide) w1.heap.size (.slice (some ⟨g2, 0, none⟩) k c2) xs ?a3 HV2.out ⟨w2.heap.size, 0, none⟩ 1 nxt ?a4 ?a5 ?a6 ?a7 ?_)
      case a1 => rfl
      case a2 => rfl
      all_goals try (case a3 => rfl)
      all_goals try (case a4 => rfl)
      all_goals try (case a5 => simp [Addr.add])
      case a6 => rw [HL.out]; omega
      case a7 => have := HSZ.out; simp; omega
      intro v' w3 ho3 hb3
      have HO3 : Hid (Own w3 w1.heap.size 67 .u32 v' (coTo ps (k + 1))) := by unfold Hid; rw [HNX.out]; exact ho3
      have HB3 := Lib.hid (hb3 _ _ HB2.out (Nat.le_refl _))
      clear ho3 hb3 HV2 HB2
      go_wp2
      exact ⟨⟨k + 1, by omega, by simp, HO3.out, HB3.out⟩, by simp [intOf]; omega⟩
    · have q1 : ¬ (k : Int) < 64 := by omega
      obtain ⟨g2, c2, rfl, hle, h⟩ := hv
      have HV : Hid (Own wr w.heap.size 67 .u32 (.slice (some ⟨g2, 0, none⟩) (coTo ps k).length c2) (coTo ps 64)) := by
        have e : k = 64 := by omega
        subst e
        refine ⟨g2, c2, rfl, hle, ?_⟩
        rcases h with h | ⟨g', cap', cur, h1, h2, h3⟩
        · exact .inl h
        · exact .inr ⟨g', cap', cur, h1, Nat.le_trans HB.out.size h2, h3⟩
      have HBE := Lib.hid (HB.out.trans (hbel.mono HB.out.size))
      clear hle h hbel
      go_wp2
      go_ret
      exact ⟨_, rfl, HV.out, HBE.out⟩
end Go.Proofs.YtoeilaedpibboaaDoor
/- The reference's taken is Compress with the table's constants. -/
namespace Go.Proofs.YtoeilaedpibboaaDoor
open Go.RowKit
set_option maxRecDepth 100000

theorem turn_rot (x : Int) (n : Nat) (h1 : 1 ≤ n) (h2 : n ≤ 31) (w : World) : Calls Tryd.prog 72 #[.int .u32 x, .int .u64 (n : Int)] w fun e w' => e = .returned (.int .u32 (Sha.rot x n)) ∧ w = w' :=
  (turn_walk x n h1 h2 w).mono fun e w' ⟨he, hw⟩ => ⟨by rw [he, Sha.rot_turn], hw⟩
theorem turn_any (x z : Int) (h1 : 1 ≤ z) (h2 : z ≤ 31) (w : World) : Calls Tryd.prog 72 #[.int .u32 x, .int .u64 z] w fun e w' => e = .returned (.int .u32 (Sha.rot x z.toNat)) ∧ w' = w := by
  obtain ⟨n, rfl⟩ := Int.eq_ofNat_of_zero_le (show 0 ≤ z by omega)
  exact still_of (turn_rot x n (by omega) (by omega) w)
theorem turn2 (x : Int) (w : World) : Calls Tryd.prog 72 #[.int .u32 x, .int .u64 2] w fun e w' => e = .returned (.int .u32 (Sha.rot x 2)) ∧ w = w' := turn_rot x 2 (by omega) (by omega) w
theorem turn6 (x : Int) (w : World) : Calls Tryd.prog 72 #[.int .u32 x, .int .u64 6] w fun e w' => e = .returned (.int .u32 (Sha.rot x 6)) ∧ w = w' := turn_rot x 6 (by omega) (by omega) w
theorem turn7 (x : Int) (w : World) : Calls Tryd.prog 72 #[.int .u32 x, .int .u64 7] w fun e w' => e = .returned (.int .u32 (Sha.rot x 7)) ∧ w = w' := turn_rot x 7 (by omega) (by omega) w
theorem turn11 (x : Int) (w : World) : Calls Tryd.prog 72 #[.int .u32 x, .int .u64 11] w fun e w' => e = .returned (.int .u32 (Sha.rot x 11)) ∧ w = w' := turn_rot x 11 (by omega) (by omega) w
theorem turn13 (x : Int) (w : World) : Calls Tryd.prog 72 #[.int .u32 x, .int .u64 13] w fun e w' => e = .returned (.int .u32 (Sha.rot x 13)) ∧ w = w' := turn_rot x 13 (by omega) (by omega) w
theorem turn17 (x : Int) (w : World) : Calls Tryd.prog 72 #[.int .u32 x, .int .u64 17] w fun e w' => e = .returned (.int .u32 (Sha.rot x 17)) ∧ w = w' := turn_rot x 17 (by omega) (by omega) w
theorem turn18 (x : Int) (w : World) : Calls Tryd.prog 72 #[.int .u32 x, .int .u64 18] w fun e w' => e = .returned (.int .u32 (Sha.rot x 18)) ∧ w = w' := turn_rot x 18 (by omega) (by omega) w
theorem turn19 (x : Int) (w : World) : Calls Tryd.prog 72 #[.int .u32 x, .int .u64 19] w fun e w' => e = .returned (.int .u32 (Sha.rot x 19)) ∧ w = w' := turn_rot x 19 (by omega) (by omega) w
theorem turn22 (x : Int) (w : World) : Calls Tryd.prog 72 #[.int .u32 x, .int .u64 22] w fun e w' => e = .returned (.int .u32 (Sha.rot x 22)) ∧ w = w' := turn_rot x 22 (by omega) (by omega) w
theorem turn25 (x : Int) (w : World) : Calls Tryd.prog 72 #[.int .u32 x, .int .u64 25] w fun e w' => e = .returned (.int .u32 (Sha.rot x 25)) ∧ w = w' := turn_rot x 25 (by omega) (by omega) w

/-- The first t words of a block's schedule. -/
def schedTo (bs : List Int) (t : Nat) : List Int := if t ≤ 16 then Sha.firstWords bs t else Sha.sched bs (t - 16)
theorem schedTo_length (bs : List Int) (t : Nat) : (schedTo bs t).length = t := by
  unfold schedTo; split
  · exact Sha.firstWords_length _ _
  · rw [Sha.sched_length]; omega
theorem schedTo_low (bs : List Int) (t : Nat) (h : t < 16) : schedTo bs (t + 1) = schedTo bs t ++ [Sha.wordAt bs t] := by
  unfold schedTo; rw [if_pos (by omega), if_pos (by omega)]; rfl
theorem schedTo_16 (bs : List Int) (t : Nat) (h : 16 ≤ t) : schedTo bs t = Sha.sched bs (t - 16) := by
  unfold schedTo; split
  · have : t = 16 := by omega
    subst this; rfl
  · rfl
theorem schedTo_high (bs : List Int) (t : Nat) (h : 16 ≤ t) : schedTo bs (t + 1) = schedTo bs t ++ [Sha.nextWord ((schedTo bs t)[t - 16]?.getD 0) ((schedTo bs t)[t - 15]?.getD 0) ((schedTo bs t)[t - 7]?.getD 0) ((schedTo bs t)[t - 2]?.getD 0)] := by
  obtain ⟨n, rfl⟩ : ∃ n, t = 16 + n := ⟨t - 16, by omega⟩
  rw [schedTo_16 _ _ (by omega), schedTo_16 _ _ (by omega), show 16 + n + 1 - 16 = n + 1 by omega, show 16 + n - 16 = n by omega, show 16 + n - 15 = n + 1 by omega, show 16 + n - 7 = n + 9 by omega, show 16 + n - 2 = n + 14 by omega]
  rfl
def schedZ (bs : List Int) (t : Nat) : List Int := schedTo bs t ++ List.replicate (64 - t) 0
theorem schedZ_length (bs : List Int) (t : Nat) (h : t ≤ 64) : (schedZ bs t).length = 64 := by simp [schedZ, schedTo_length]; omega
theorem schedZ_get (bs : List Int) (t j : Nat) (h : j < t) : (schedZ bs t).getD j 0 = (schedTo bs t)[j]?.getD 0 := by
  simp only [schedZ, List.getD_eq_getElem?_getD]
  rw [List.getElem?_append_left (by rw [schedTo_length]; omega)]
theorem schedZ_set (bs : List Int) (t : Nat) (h : t < 64) (v : Int) (hn : schedTo bs (t + 1) = schedTo bs t ++ [v]) : (schedZ bs t).set t v = schedZ bs (t + 1) := by
  have := Sha.set_zeros (schedTo bs t) (64 - (t + 1)) v
  rw [schedTo_length, show 64 - (t + 1) + 1 = 64 - t by omega] at this
  rw [schedZ, this, schedZ, hn]

theorem Blk.to {w : World} {b b' : Nat} {t : TypeId} {cs cs' : List Value} (h : Blk w b t cs) (e : b = b') (e2 : cs = cs') : Blk w b' t cs' := by subst e; subst e2; exact h
theorem step_list (s : Sha.St) (k w : Int) : (Sha.step s k w).list = [(s.h + Sha.bsig1 s.e + Sha.cho s.e s.f s.g + k + w + (Sha.bsig0 s.a + Sha.maj s.a s.b s.c)) % 4294967296, s.a, s.b, s.c, (s.d + (s.h + Sha.bsig1 s.e + Sha.cho s.e s.f s.g + k + w)) % 4294967296, s.e, s.f, s.g] := by
  unfold Sha.step Sha.St.list Sha.t1 Sha.t2
  simp only [Int.emod_add_emod, Int.add_emod_emod]
def outTo (st l : List Int) : Nat → List Int
  | 0 => List.replicate 8 0
  | j + 1 => (outTo st l j).set j ((st.getD j 0 + l.getD j 0) % 4294967296)
theorem outTo_length (st l : List Int) (j : Nat) : (outTo st l j).length = 8 := by
  induction j with
  | zero => simp [outTo]
  | succ j ih => simp [outTo, ih]
theorem outTo_8 (s0 s1 s2 s3 s4 s5 s6 s7 : Int) (s : Sha.St) : outTo [s0, s1, s2, s3, s4, s5, s6, s7] s.list 8 = Sha.addTo [s0, s1, s2, s3, s4, s5, s6, s7] s.list 8 := rfl
/-- What lies in memory while a block is taken. -/
structure Tk (st bs : List Int) (w wr : World) : Prop where
  b0 : Blk wr w.heap.size 68 (ints .u32 st)
  b1 : Blk wr (w.heap.size + 1) 49 (ints .u8 bs)
  b2 : Blk wr (w.heap.size + 1 + 1) 68 (ints .u32 (List.replicate 8 0))
  bel : Below w.heap.size w wr
theorem Tk.upd {st bs : List Int} {w wr wr' : World} (h : Tk st bs w wr) {b : Nat} (hu : Upd b wr wr') (hb : w.heap.size + 1 + 1 < b) : Tk st bs w wr' :=
  ⟨hu.blk h.b0 (by omega), hu.blk h.b1 (by omega), hu.blk h.b2 (by omega), hu.below h.bel (by omega) h.bel.size⟩

set_option maxHeartbeats 1000000 in
theorem taken_lit (s0 s1 s2 s3 s4 s5 s6 s7 : Int) (bs : List Int) (hbs : bs.length = 64) (g cap : Nat) (w : World) (hg : g < w.heap.size) (hk : ∀ i, i < 64 → w.cell? ⟨g, i, none⟩ = some (.int .u32 (Sha.K[i]?.getD 0))) :
    Calls Tryd.prog 61 #[.agg (ints .u32 [s0, s1, s2, s3, s4, s5, s6, s7]).toArray, .agg (ints .u8 bs).toArray, .slice (some ⟨g, 0, none⟩) 64 cap] w fun e w' => e = .returned (.agg (ints .u32 (Sha.compress [s0, s1, s2, s3, s4, s5, s6, s7] bs)).toArray) ∧ Below w.heap.size w w' := by
  obtain ⟨st, hst⟩ : ∃ st, st = [s0, s1, s2, s3, s4, s5, s6, s7] := ⟨_, rfl⟩
  have S0 : Hid (Sha.St.of st = ⟨s0, s1, s2, s3, s4, s5, s6, s7⟩) := by subst hst; rfl
  have hlen : st.length = 8 := by subst hst; rfl
  rw [← hst]
  have HST := Lib.hid hst
  have HLEN := Lib.hid hlen
  have HBS := Lib.hid hbs
  have HK := Lib.hid hk
  have HG := Lib.hid hg
  clear hst hlen hbs hk hg
  have HT0 : Hid (∀ c3, c3 = (ints .u32 (List.replicate 8 0)).toArray → Tk st bs w (((w.alloc (.cells (ints .u32 st).toArray 68)).alloc (.cells (ints .u8 bs).toArray 49)).alloc (.cells c3 68))) := fun c3 hc3 =>
    ⟨((Blk.new _ _ _).alloc _).alloc _, (Blk.new2 _ _ _ _ _ (by simp) rfl).alloc _, Blk.new2 _ _ _ _ _ (by simp) hc3, (((Below.refl _ _).alloc (Nat.le_refl _) _).alloc (by simp) _).alloc (by simp; omega) _⟩
  go_enter Tryd.func61, Tryd.ntmps61
  go_wp2_with (refine wpList_make_blk _ rfl _ _ 86 rfl 67 (.int .u32 0) 4 Tryd.underlying86 infoU32 rfl _ _ _ _ 64 rfl rfl rfl rfl (by omega) (by omega) ?_)
  intro w1 hb hbel hsz
  have T1 := Lib.hid ((HT0.out _ (by kernel_rfl)).upd (b := w.heap.size + 1 + 1 + 1) (Upd.of_below hbel (by simp)) (by omega))
  have W1 : Hid (Blk w1 (w.heap.size + 1 + 1 + 1) 67 (ints .u32 (schedZ bs 0))) := hb.to (by simp) rfl
  clear hb hbel hsz HT0
  go_wp2
  go_loopw [8] (fun i wr => ∃ t : Nat, t ≤ 64 ∧ i = .int .i64 t ∧ Tk st bs w wr ∧ Blk wr (w.heap.size + 1 + 1 + 1) 67 (ints .u32 (schedZ bs t))) (fun i _ => 64 - (intOf i).toNat)
  case atStart => exact ⟨0, by omega, rfl, T1.out, W1.out⟩
  case round =>
    obtain ⟨t, ht, rfl, hT, hW⟩ := hrel
    clear T1 W1
    by_cases hlt : t < 16
    · -- A{
      have c0 := hT.b1.cell (ints_getD (k := .u8) (l := bs) (j := 4 * t) (by rw [HBS.out]; omega))
      have c1 := hT.b1.cell (ints_getD (k := .u8) (l := bs) (j := 4 * t + 1) (by rw [HBS.out]; omega))
      have c2 := hT.b1.cell (ints_getD (k := .u8) (l := bs) (j := 4 * t + 2) (by rw [HBS.out]; omega))
      have c3 := hT.b1.cell (ints_getD (k := .u8) (l := bs) (j := 4 * t + 3) (by rw [HBS.out]; omega))
      have d0 := hW.cell (ints_getD (k := .u32) (j := t) (by rw [schedZ_length _ _ (by omega)]; omega))
      have f0 := hW.free t
      have HT := Lib.hid hT
      have HW := Lib.hid hW
      clear hT hW
      have e0 : IntKind.i64.wrap (4 * (t : Int)) = 4 * (t : Int) := IntWalk.i64_in _ (by omega)
      have e1 : IntKind.i64.wrap (4 * (t : Int) + 1) = 4 * (t : Int) + 1 := IntWalk.i64_in _ (by omega)
      have e2 : IntKind.i64.wrap (4 * (t : Int) + 2) = 4 * (t : Int) + 2 := IntWalk.i64_in _ (by omega)
      have e3 : IntKind.i64.wrap (4 * (t : Int) + 3) = 4 * (t : Int) + 3 := IntWalk.i64_in _ (by omega)
      have p0 : 0 ≤ 4 * (t : Int) := by omega
      have p1 : 0 ≤ 4 * (t : Int) + 1 := by omega
      have p2 : 0 ≤ 4 * (t : Int) + 2 := by omega
      have p3 : 0 ≤ 4 * (t : Int) + 3 := by omega
      have q0 : 4 * (t : Int) < 64 := by omega
      have q1 : 4 * (t : Int) + 1 < 64 := by omega
      have q2 : 4 * (t : Int) + 2 < 64 := by omega
      have q3 : 4 * (t : Int) + 3 < 64 := by omega
      have t0 : (4 * (t : Int)).toNat = 4 * t := by omega
      have t1 : (4 * (t : Int) + 1).toNat = 4 * t + 1 := by omega
      have t2 : (4 * (t : Int) + 2).toNat = 4 * t + 2 := by omega
      have t3 : (4 * (t : Int) + 3).toNat = 4 * t + 3 := by omega
      have q16 : (t : Int) < 16 := by omega
      have qk : (t : Int) < 64 := by omega
      go_wp2
      go_still_tail 32, (by kernel_rfl)
      clear e0 e1 e2 e3 t0 t1 t2 t3 c0 c1 c2 c3
      go_wp2
      go_roundw
      case rel =>
        refine ⟨t + 1, by omega, by go_num, ?_, ?_⟩
        · exact HT.out.upd (b := w.heap.size + 1 + 1 + 1) ((Upd.refl _ _).setCell t _).drew (by omega)
        · have hs := (HW.out.set t (.int .u32 (Sha.wordAt bs t))).drew
          rw [ints_set, schedZ_set bs t (by omega) _ (schedTo_low bs t hlt)] at hs
          exact hs
      case measure => simp [intOf]; omega
      -- }A
    · by_cases hlt2 : t < 64
      · -- A{
        have hzl := schedZ_length bs t (by omega)
        have c0 := hW.cell (ints_getD (k := .u32) (j := t - 16) (by omega))
        have c1 := hW.cell (ints_getD (k := .u32) (j := t - 15) (by omega))
        have c2 := hW.cell (ints_getD (k := .u32) (j := t - 7) (by omega))
        have c3 := hW.cell (ints_getD (k := .u32) (j := t - 2) (by omega))
        have d0 := hW.cell (ints_getD (k := .u32) (j := t) (by omega))
        rw [schedZ_get _ _ _ (by omega)] at c0 c1 c2 c3
        have f0 := hW.free t
        have HT := Lib.hid hT
        have HW := Lib.hid hW
        have HN := Lib.hid (schedTo_high bs t (by omega))
        clear hT hW hzl
        generalize (schedTo bs t)[t - 16]?.getD 0 = x16 at *
        generalize (schedTo bs t)[t - 15]?.getD 0 = x15 at *
        generalize (schedTo bs t)[t - 7]?.getD 0 = x7 at *
        generalize (schedTo bs t)[t - 2]?.getD 0 = x2 at *
        have e0 : IntKind.i64.wrap ((t : Int) - 16) = (t : Int) - 16 := IntWalk.i64_in _ (by omega)
        have e2 : IntKind.i64.wrap ((t : Int) - 7) = (t : Int) - 7 := IntWalk.i64_in _ (by omega)
        have p0 : 0 ≤ (t : Int) - 16 := by omega
        have p1 : 0 ≤ (t : Int) - 15 := by omega
        have p2 : 0 ≤ (t : Int) - 7 := by omega
        have p3 : 0 ≤ (t : Int) - 2 := by omega
        have p0' : 16 ≤ (t : Int) := by omega
        have p1' : 15 ≤ (t : Int) := by omega
        have p2' : 7 ≤ (t : Int) := by omega
        have p3' : 2 ≤ (t : Int) := by omega
        have q0 : (t : Int) - 16 < 64 := by omega
        have q1 : (t : Int) - 15 < 64 := by omega
        have q2 : (t : Int) - 7 < 64 := by omega
        have q3 : (t : Int) - 2 < 64 := by omega
        have q4 : (t : Int) < 64 := by omega
        have q5 : ¬ (t : Int) < 16 := by omega
        have t0 : ((t : Int) - 16).toNat = t - 16 := by omega
        have t1 : ((t : Int) - 15).toNat = t - 15 := by omega
        have t2 : ((t : Int) - 7).toNat = t - 7 := by omega
        have t3 : ((t : Int) - 2).toNat = t - 2 := by omega
        go_wp2_with fail
        refine (turn7 _ _).mono ?_
        rintro e w' ⟨rfl, rfl⟩
        go_wp2_with fail
        refine (turn18 _ _).mono ?_
        rintro e w' ⟨rfl, rfl⟩
        go_wp2_with fail
        refine (turn17 _ _).mono ?_
        rintro e w' ⟨rfl, rfl⟩
        go_wp2_with fail
        refine (turn19 _ _).mono ?_
        rintro e w' ⟨rfl, rfl⟩
        go_wp2
        go_still_tail 18, (by kernel_rfl)
        clear e0 e2 t0 t1 t2 t3 c0 c1 c2 c3
        go_wp2
        go_roundw
        case rel =>
          refine ⟨t + 1, by omega, by go_num, ?_, ?_⟩
          · exact HT.out.upd (b := w.heap.size + 1 + 1 + 1) ((Upd.refl _ _).setCell t _).drew (by omega)
          · have hs := (HW.out.set t (.int .u32 (Sha.nextWord x16 x15 x7 x2))).drew
            rw [ints_set, schedZ_set bs t (by omega) _ HN.out] at hs
            exact hs
        case measure => simp [intOf]; omega
        -- }A
      · have HT := Lib.hid hT
        have HW : Hid (Blk wr (w.heap.size + 1 + 1 + 1) 67 (ints .u32 (Sha.sched bs 48))) := by
          have e : t = 64 := by omega
          subst e
          have e2 : schedZ bs 64 = Sha.sched bs 48 := by
            rw [schedZ, schedTo_16 _ _ (by omega)]; simp
          rw [e2] at hW
          exact hW
        have q1 : ¬ ((t : Int) < 64) := by omega
        have q2 : decide ((t : Int) < 64) = false := by simp; omega
        have HI : Hid ((Tryd.prog.info? 68).map (·.size) = some (ints .u32 st).length) := by unfold Hid; rw [ints_length, HLEN.out]; exact infoState
        have HI' : Hid ((Tryd.prog.info? 68).map (·.size) = some (ints .u32 st).toArray.size) := by unfold Hid; rw [List.size_toArray, ints_length, HLEN.out]; exact infoState
        have HL8 : Hid ((ints .u32 st).length = (ints .u32 (List.replicate 8 0)).length) := by unfold Hid; rw [ints_length, HLEN.out, ints_length, List.length_replicate]
        have HSZ := Lib.hid HW.out.lt
        clear hT hW
        go_wp2_with (first
            | (refine wpList_load_row rfl 68 _ rfl w.heap.size rfl 68 (ints .u32 st).toArray (0, 0) _ HT.out.b0 Tryd.underlying68 rfl HI'.out ?_)
            | (refine wpList_store_whole rfl 68 _ _ rfl wr.heap.size (ints .u32 st) rfl rfl 68 (ints .u32 (List.replicate 8 0)) (Blk.new2 _ _ _ _ _ rfl (by kernel_rfl)) HL8.out HI.out (ints_oneCell _ _) ?_))
        intro w2 hw2 hup _
        obtain ⟨V, hV⟩ : ∃ V, V = wr.heap.size := ⟨_, rfl⟩
        rw [← hV] at hw2 hup ⊢
        have HV : Hid (w.heap.size + 1 + 1 + 1 < V) := by have := HSZ.out; unfold Hid; omega
        have T2 := Lib.hid (HT.out.upd (((Upd.refl V _).alloc _).trans hup) (by have := HV.out; omega))
        have W2 := Lib.hid (((Upd.refl V _).alloc _).trans hup |>.blk HW.out (by have := HV.out; omega))
        have V2 : Hid (Blk w2 V 68 (ints .u32 (Sha.steps st bs 0).list)) := by
          have e : (Sha.steps st bs 0).list = st := by rw [show Sha.steps st bs 0 = Sha.St.of st from rfl, S0.out, HST.out]; rfl
          unfold Hid; rw [e]; exact hw2
        clear hw2 hup HT HW hV HSZ hlt hlt2 q1 q2
        refine wpList_nil ?_
        go_wp2
        go_loopw [14] (fun i wr => ∃ k : Nat, k ≤ 64 ∧ i = .int .i64 k ∧ Tk st bs w wr ∧ Blk wr (w.heap.size + 1 + 1 + 1) 67 (ints .u32 (Sha.sched bs 48)) ∧ Blk wr V 68 (ints .u32 (Sha.steps st bs k).list)) (fun i _ => 64 - (intOf i).toNat)
        case atStart => exact ⟨0, by omega, rfl, T2.out, W2.out, V2.out⟩
        case round =>
          obtain ⟨k, hk, rfl, hT, hW, hV⟩ := hrel
          clear T2 W2 V2
          by_cases hlt : k < 64
          · -- A{
            have cW := hW.cell (ints_getD (k := .u32) (j := k) (by rw [Sha.sched_length]; omega))
            have cK : wr.cell? ⟨g, k, none⟩ = _ := (hT.bel.cell (p := ⟨g, k, none⟩) HG.out).trans (HK.out k hlt)
            have HT := Lib.hid hT
            have HW := Lib.hid hW
            have hs : Hid (Sha.steps st bs (k + 1) = Sha.step (Sha.steps st bs k) (Sha.K[k]?.getD 0) ((Sha.sched bs 48)[k]?.getD 0)) := rfl
            have HVb := Lib.hid hV
            clear hT hW hV
            generalize Sha.steps st bs k = s at *
            generalize Sha.K[k]?.getD 0 = kk at *
            rw [List.getD_eq_getElem?_getD] at cW
            generalize (Sha.sched bs 48)[k]?.getD 0 = ww at *
            have c0 : wr.cell? ⟨V, 0, none⟩ = some (.int .u32 s.a) := HVb.out.cell rfl
            have c1 : wr.cell? ⟨V, 1, none⟩ = some (.int .u32 s.b) := HVb.out.cell rfl
            have c2 : wr.cell? ⟨V, 2, none⟩ = some (.int .u32 s.c) := HVb.out.cell rfl
            have c3 : wr.cell? ⟨V, 3, none⟩ = some (.int .u32 s.d) := HVb.out.cell rfl
            have c4 : wr.cell? ⟨V, 4, none⟩ = some (.int .u32 s.e) := HVb.out.cell rfl
            have c5 : wr.cell? ⟨V, 5, none⟩ = some (.int .u32 s.f) := HVb.out.cell rfl
            have c6 : wr.cell? ⟨V, 6, none⟩ = some (.int .u32 s.g) := HVb.out.cell rfl
            have c7 : wr.cell? ⟨V, 7, none⟩ = some (.int .u32 s.h) := HVb.out.cell rfl
            have q0 : (k : Int) < 64 := by omega
            go_wp2
            rw [Sha.cho_or, Sha.maj_or]
            go_quiet ((go_at_call 72; exact Calls.quiet_of_same (turn_any _ _ (by decide) (by decide) _)))
            go_wp2_with fail
            refine (turn2 _ _).mono ?_
            rintro e w' ⟨rfl, rfl⟩
            go_wp2_with fail
            refine (turn13 _ _).mono ?_
            rintro e w' ⟨rfl, rfl⟩
            go_wp2_with fail
            refine (turn22 _ _).mono ?_
            rintro e w' ⟨rfl, rfl⟩
            have VB : Hid (Blk (wr.drewN nq) V 68 (ints .u32 s.list)) := HVb.out
            have UB : Hid (Upd V wr (wr.drewN nq)) := Upd.of_below (below_drewN wr nq) (Nat.le_refl _)
            have f0 : wr.frozen? ⟨V, 0, none⟩ = false := HVb.out.free 0
            have f1 : wr.frozen? ⟨V, 1, none⟩ = false := HVb.out.free 1
            have f2 : wr.frozen? ⟨V, 2, none⟩ = false := HVb.out.free 2
            have f3 : wr.frozen? ⟨V, 3, none⟩ = false := HVb.out.free 3
            have f4 : wr.frozen? ⟨V, 4, none⟩ = false := HVb.out.free 4
            have f5 : wr.frozen? ⟨V, 5, none⟩ = false := HVb.out.free 5
            have f6 : wr.frozen? ⟨V, 6, none⟩ = false := HVb.out.free 6
            have f7 : wr.frozen? ⟨V, 7, none⟩ = false := HVb.out.free 7
            go_wp2
            clear f0 f1 f2 f3 f4 f5 f6 f7 c0 c1 c2 c3 c4 c5 c6 c7 cW cK
            go_roundw
            case rel =>
              refine ⟨k + 1, by omega, by go_num, ?_, ?_, ?_⟩
              · exact HT.out.upd ((((((((UB.out.setCell 0 _).setCell 1 _).setCell 2 _).setCell 3 _).setCell 4 _).setCell 5 _).setCell 6 _).setCell 7 _) (by have := HV.out; omega)
              · exact ((((((((UB.out.setCell 0 _).setCell 1 _).setCell 2 _).setCell 3 _).setCell 4 _).setCell 5 _).setCell 6 _).setCell 7 _).blk HW.out (by have := HV.out; omega)
              · rw [hs.out, step_list]
                exact (((((((VB.out.set 0 _).set 1 _).set 2 _).set 3 _).set 4 _).set 5 _).set 6 _).set 7 _
            case measure => simp [intOf]; omega
            -- }A
          · have HT := Lib.hid hT
            have HVb := Lib.hid hV
            have ek : Hid (k = 64) := by unfold Hid; omega
            have q1 : ¬ ((k : Int) < 64) := by omega
            have q2 : decide ((k : Int) < 64) = false := by simp; omega
            obtain ⟨s, hs⟩ : ∃ s, Hid (Sha.steps st bs k = s) := ⟨_, rfl⟩
            rw [hs.out] at HVb
            have hfin : Hid (Sha.compress st bs = outTo st s.list 8) := by
              have e := ek.out
              subst e
              unfold Hid Sha.compress
              rw [hs.out, HST.out, outTo_8]
            clear hT hW hV hs ek
            have T3 : Hid (Tk st bs w (wr.alloc (.cells (ints .u32 (List.replicate 8 0)).toArray 68))) := HT.out.upd (b := V) ((Upd.refl V _).alloc _) (by have := HV.out; omega)
            have V3 := Lib.hid (HVb.out.alloc (.cells (ints .u32 (List.replicate 8 0)).toArray 68))
            have O3 : Hid (Blk (wr.alloc (.cells (ints .u32 (List.replicate 8 0)).toArray 68)) wr.heap.size 68 (ints .u32 (outTo st s.list 0))) := Blk.new _ _ _
            have HVO := Lib.hid HVb.out.lt
            clear HT HVb
            go_wp2
            obtain ⟨O, hO⟩ : ∃ O, O = wr.heap.size := ⟨_, rfl⟩
            rw [← hO] at O3 HVO ⊢
            have HO := Lib.hid hO
            clear hO
            go_loopw [22] (fun i wr => ∃ j : Nat, j ≤ 8 ∧ i = .int .i64 j ∧ Tk st bs w wr ∧ Blk wr V 68 (ints .u32 s.list) ∧ Blk wr O 68 (ints .u32 (outTo st s.list j))) (fun i _ => 8 - (intOf i).toNat)
            case atStart => exact ⟨0, by omega, rfl, T3.out, V3.out, O3.out⟩
            case round =>
              obtain ⟨j, hj, rfl, hT, hV, hO⟩ := hrel
              clear T3 V3 O3 q1 q2 hlt
              by_cases hlt : j < 8
              · have c0 := hT.b0.cell (ints_getD (k := .u32) (j := j) (by rw [HLEN.out]; omega))
                have c1 := hV.cell (ints_getD (k := .u32) (j := j) (by show j < 8; omega))
                have c2 := hO.cell (ints_getD (k := .u32) (j := j) (by rw [outTo_length]; omega))
                have f2 := hO.free j
                have q0 : (j : Int) < 8 := by omega
                have HT := Lib.hid hT
                have HVb := Lib.hid hV
                have HOb := Lib.hid hO
                clear hT hV hO
                have hn : Hid (outTo st s.list (j + 1) = (outTo st s.list j).set j ((st.getD j 0 + s.list.getD j 0) % 4294967296)) := rfl
                go_wp2
                go_still_tail 9, (by kernel_rfl)
                clear c0 c1
                go_wp2
                go_roundw
                case rel =>
                  refine ⟨j + 1, by omega, by go_num, ?_, ?_, ?_⟩
                  · exact HT.out.upd (b := O) ((Upd.refl _ _).setCell j _).drew (by have := HVO.out; have := HV.out; omega)
                  · exact ((Upd.refl O _).setCell j _).drew.blk HVb.out (by have := HVO.out; omega)
                  · have h2 := (HOb.out.set j (.int .u32 ((st.getD j 0 + s.list.getD j 0) % 4294967296))).drew
                    rw [ints_set, ← hn.out] at h2
                    simpa using h2
                case measure => simp [intOf]; omega
              · have HT := Lib.hid hT
                have HOb : Hid (Blk wr O 68 (ints .u32 (Sha.compress st bs))) := by
                  have e : j = 8 := by omega
                  subst e
                  rw [← hfin.out] at hO; exact hO
                have hlc : (Sha.compress st bs).length = 8 := by rw [hfin.out, outTo_length]
                have HI8 : Hid ((Tryd.prog.info? 68).map (·.size) = some (ints .u32 (Sha.compress st bs)).length) := by unfold Hid; rw [ints_length, hlc]; exact infoState
                have HI8' : Hid ((Tryd.prog.info? 68).map (·.size) = some (ints .u32 (Sha.compress st bs)).toArray.size) := by unfold Hid; rw [List.size_toArray, ints_length, hlc]; exact infoState
                have HL9 : Hid ((ints .u32 (Sha.compress st bs)).length = (ints .u32 (List.replicate 8 0)).length) := by unfold Hid; rw [ints_length, hlc, ints_length, List.length_replicate]
                have q3 : ¬ ((j : Int) < 8) := by omega
                have q5 : decide ((j : Int) < 8) = false := by simp; omega
                clear hT hV hO hlc hfin
                obtain ⟨res, hres⟩ : ∃ r, Hid (Sha.compress st bs = r) := ⟨_, rfl⟩
                rw [hres.out] at HOb HI8 HI8' HL9
                go_wp2_with (first
                  | (refine wpList_load_row rfl 68 _ rfl O rfl 68 (ints .u32 res).toArray (0, 0) _ HOb.out Tryd.underlying68 rfl HI8'.out ?_)
                  | (refine wpList_store_whole rfl 68 _ _ rfl (w.heap.size + 1 + 1) (ints .u32 res) rfl rfl 68 (ints .u32 (List.replicate 8 0)) HT.out.b2 HL9.out HI8.out (ints_oneCell _ _) ?_))
                intro w3 hw3 hup _
                refine wpList_nil ?_
                go_wp2
                have hbl := hup.below HT.out.bel (by omega) HT.out.bel.size
                refine bodyPost_ret (v := .agg (ints .u32 res).toArray) ?_ rfl ⟨by rw [hres.out], hbl⟩
                refine results_cell_row (g := w.heap.size + 1 + 1) (t := 68) (cs := (ints .u32 res).toArray) (fr := (0, 0)) Tryd.results61 _ _ _ ?_ ?_ Tryd.underlying68 rfl HI8'.out
                · rfl
                · exact hw3
theorem taken_ref (st bs : List Int) (hst : st.length = 8) (hbs : bs.length = 64) (g cap : Nat) (w : World) (hg : g < w.heap.size) (hk : ∀ i, i < 64 → w.cell? ⟨g, i, none⟩ = some (.int .u32 (Sha.K[i]?.getD 0))) :
    Calls Tryd.prog 61 #[.agg (ints .u32 st).toArray, .agg (ints .u8 bs).toArray, .slice (some ⟨g, 0, none⟩) 64 cap] w fun e w' => e = .returned (.agg (ints .u32 (Sha.compress st bs)).toArray) ∧ Below w.heap.size w w' := by
  match st, hst with
  | [s0, s1, s2, s3, s4, s5, s6, s7], _ => exact taken_lit s0 s1 s2 s3 s4 s5 s6 s7 bs hbs g cap w hg hk
end Go.Proofs.YtoeilaedpibboaaDoor
/- The reference's Pad is the program's. -/
namespace Go.Proofs.YtoeilaedpibboaaDoor
open Go.RowKit
set_option maxRecDepth 100000

theorem rpad_none (n : Int) (h : n < 0 ∨ 1125899906842624 < n) (w : World) :
    Calls Tryd.prog 58 #[.int .i64 n] w fun e w' => e = .returned (.slice none 0 0) ∧ w = w' := by
  rcases h with h | h
  · go_enter Tryd.func58, Tryd.ntmps58
    go_wp2
    go_ret
    exact ⟨rfl, rfl⟩
  · have h' : ¬ n < 0 := by omega
    go_enter Tryd.func58, Tryd.ntmps58
    go_wp2
    go_ret
    exact ⟨rfl, rfl⟩
theorem pad_first (n : Nat) : (Sha.pad n).take (Sha.padSize n - 8) = 128 :: List.replicate (Sha.padSize n - 9) 0 := by
  have hb := Sha.padSize_bounds n
  apply List.ext_getElem?
  intro i
  rw [List.getElem?_take]
  by_cases hi : i < Sha.padSize n - 8
  · rw [if_pos hi, Sha.pad_get n i (by omega)]
    cases i with
    | zero => simp
    | succ i => rw [if_neg (by omega), if_neg (by omega), List.getElem?_cons_succ, List.getElem?_replicate, if_pos (by omega)]
  · rw [if_neg hi, List.getElem?_eq_none (by simp; omega)]
theorem pad_next (n m : Nat) (hm : m < 8) : (Sha.pad n).take (Sha.padSize n - (m + 1)) ++ [(n : Int) * 8 / 2 ^ (8 * m) % 256] = (Sha.pad n).take (Sha.padSize n - m) := by
  have hb := Sha.padSize_bounds n
  rw [show Sha.padSize n - m = Sha.padSize n - (m + 1) + 1 by omega, List.take_add_one, Sha.pad_get n _ (by omega), if_neg (by omega), if_pos (by omega), show Sha.padSize n - 1 - (Sha.padSize n - (m + 1)) = m by omega]
  rfl
def OwnPost (e : TypeId) (k : IntKind) (xs : List Int) (w : World) (r : Ending) (w' : World) : Prop := ∃ v, r = .returned v ∧ Own w' w.heap.size e k v xs ∧ Below w.heap.size w w'
theorem own_one (w : World) (e : TypeId) (k : IntKind) (z : Int) : Own (w.alloc (.cells #[.int k z] e)) w.heap.size e k (.slice (some ⟨w.heap.size, 0, none⟩) 1 1) [z] :=
  ⟨w.heap.size, 1, rfl, Own.of_blk (xs := [z]) (Blk.new2 _ _ _ _ _ rfl rfl) (Nat.le_refl _) (by simp)⟩
set_option maxHeartbeats 1000000 in
theorem rpad_some (n : Nat) (h : n ≤ 1125899906842624) (w : World) : Calls Tryd.prog 58 #[.int .i64 (n : Int)] w (OwnPost 5 .u8 (Sha.pad n) w) := by
  have h1 : ¬ ((n : Int) < 0) := by omega
  have h2 : ¬ (1125899906842624 < (n : Int)) := by omega
  have h3 : (n : Int) * 8 ≤ 9007199254740992 := by omega
  obtain ⟨z, ez⟩ : ∃ z, Hid (z = Sha.padSize n) := ⟨_, rfl⟩
  obtain ⟨hz9, hz72⟩ : 9 ≤ z ∧ z ≤ 72 := by rw [ez.out]; exact Sha.padSize_bounds n
  have hzm : (n + z) % 64 = 0 := by rw [ez.out]; exact Sha.padSize_mod n
  have HZM := Lib.hid hzm
  clear hzm
  go_enter Tryd.func58, Tryd.ntmps58
  go_wp2
  go_loopw [3] (fun v wr => ∃ k : Nat, k + 9 ≤ z ∧ Own wr w.heap.size 5 .u8 v (128 :: List.replicate k 0) ∧ Below w.heap.size w wr) (fun v _ => 100 - lenOf' v)
  case atStart => exact ⟨0, by omega, own_one w 5 .u8 128, (Below.refl _ _).alloc (Nat.le_refl _) _⟩
  case round =>
    obtain ⟨k, hk, ⟨g, cap, rfl, hown⟩, hbel⟩ := hrel
    obtain ⟨len, el⟩ : ∃ len, Hid (len = k + 1) := ⟨_, rfl⟩
    have elen : (128 :: List.replicate k (0 : Int)).length = len := by rw [el.out]; simp
    rw [elen] at hown ⊢
    have EL := Lib.hid elen
    clear elen
    by_cases hlt : k + 9 < z
    · have q1 : (((n : Int) + (len : Int)) % 64 != 56) = true := by
        have := HZM.out
        have := el.out
        simp; omega
      have HO : Hid (Own (wr.alloc (.cells #[.int .u8 0] 5)) w.heap.size 5 .u8 (.slice (some ⟨g, 0, none⟩) len cap) (128 :: List.replicate k 0)) := ⟨g, cap, by rw [EL.out], by rw [EL.out]; exact hown.alloc _⟩
      have HB : Hid (Below w.heap.size w (wr.alloc (.cells #[.int .u8 0] 5))) := hbel.alloc hbel.size _
      have HSZ := Lib.hid hbel.size
      have hl : (len : Int) ≤ 72 := by have := el.out; omega
      clear hown hbel
      go_wp2_with (with_reducible refine wpList_append_one (o := ⟨some 21, _, _, _, _, _⟩) ?a1 (.tmp 19) (.tmp 20) 36 5 ?a2 .u8 1 Tryd.underlying36 infoByte (by decide) w.heap.size (.slice (some ⟨g, 0, none⟩) len cap) (128 :: List.replicate k 0) ?a3 HO.out ⟨wr.heap.size, 0, none⟩ 1 0 ?a4 ?a5 ?a6 ?a7 ?_)
      case a1 => rfl
      case a2 => rfl
      all_goals try (case a3 => rfl)
      all_goals try (case a4 => rfl)
      all_goals try (case a5 => simp [Addr.add])
      case a6 => rw [EL.out]; omega
      case a7 => have := HSZ.out; simp; omega
      intro v' w3 ho3 hb3
      have HO3 : Hid (Own w3 w.heap.size 5 .u8 v' (128 :: List.replicate (k + 1) 0)) := by
        unfold Hid; rw [List.replicate_succ', ← List.cons_append]; exact ho3
      have HB3 := Lib.hid (hb3 _ _ HB.out (Nat.le_refl _))
      have EL2 := el.out
      clear ho3 hb3 HO HB
      obtain ⟨g3, c3, rfl, -⟩ := id HO3.out
      have ELL : Hid ((128 :: List.replicate (k + 1) (0 : Int)).length = k + 2) := by unfold Hid; simp
      rw [ELL.out] at HO3 ⊢
      go_wp2
      refine ⟨⟨k + 1, by omega, HO3.out, HB3.out⟩, ?_⟩
      simp [lenOf']; omega
    · have ek : k = z - 9 := by omega
      have q1 : (((n : Int) + (len : Int)) % 64 != 56) = false := by
        have := HZM.out
        have := el.out
        simp; omega
      have hl : (len : Int) ≤ 72 := by have := el.out; omega
      have HO : Hid (Own wr w.heap.size 5 .u8 (.slice (some ⟨g, 0, none⟩) len cap) ((Sha.pad n).take (z - 8))) := by
        rw [ez.out, pad_first, ← ez.out, ← ek]
        exact ⟨g, cap, by rw [EL.out], by rw [EL.out]; exact hown⟩
      have HB := Lib.hid hbel
      clear hown hbel ek EL el hlt
      go_wp2
      clear q1
      go_loopw [3, 5] (fun v i wr => ∃ (m : Nat) (y : Int), m ≤ 8 ∧ i = .int .i64 y ∧ y = (m : Int) - 1 ∧ Own wr w.heap.size 5 .u8 v ((Sha.pad n).take (z - m)) ∧ Below w.heap.size w wr) (fun _ i _ => (intOf i + 1).toNat)
      case atStart => exact ⟨8, 7, by omega, rfl, rfl, HO.out, HB.out⟩
      case round =>
        obtain ⟨m, y, hm, rfl, hy, hv, hbel⟩ := hrel
        clear HO HB
        have hvl : ((Sha.pad n).take (z - m)).length = z - m := by rw [List.length_take, Sha.pad_length, ← ez.out]; omega
        obtain ⟨g2, c2, rfl, hown⟩ := hv
        cases m with
        | zero =>
          have : y = -1 := by omega
          subst this; clear hy
          have HV : Hid (Own wr w.heap.size 5 .u8 (.slice (some ⟨g2, 0, none⟩) ((Sha.pad n).take (z - 0)).length c2) (Sha.pad n)) := by
            have e : (Sha.pad n).take (z - 0) = Sha.pad n := List.take_of_length_le (by rw [Sha.pad_length, ← ez.out]; omega)
            rw [e] at hown ⊢
            exact ⟨g2, c2, rfl, hown⟩
          have HBE := Lib.hid hbel
          clear hown hbel hvl
          go_wp2
          go_ret
          exact ⟨_, rfl, HV.out, HBE.out⟩
        | succ m =>
          have : y = (m : Int) := by omega
          subst this; clear hy
          have HN := Lib.hid (pad_next n m (by omega))
          rw [← ez.out] at HN
          generalize (Sha.pad n).take (z - (m + 1)) = xs at *
          have HV : Hid (Own (wr.alloc (.cells #[.int .u8 ((n : Int) * 8 / 2 ^ (8 * m) % 256)] 5)) w.heap.size 5 .u8 (.slice (some ⟨g2, 0, none⟩) xs.length c2) xs) := ⟨g2, c2, rfl, hown.alloc _⟩
          have HBE : Hid (Below w.heap.size w (wr.alloc (.cells #[.int .u8 ((n : Int) * 8 / 2 ^ (8 * m) % 256)] 5))) := hbel.alloc hbel.size _
          have HSZ := Lib.hid hbel.size
          have HL : Hid (xs.length ≤ 72) := by unfold Hid; omega
          have q0 : 0 ≤ (m : Int) := by omega
          have q2 : (m : Int) ≤ 7 := by omega
          have q3 : 0 ≤ 8 * (m : Int) := by omega
          have q4 : (8 * (m : Int)).toNat = 8 * m := by omega
          have q5 : 0 ≤ (n : Int) * 8 := by omega
          clear hown hbel hvl
          go_wp2_with (with_reducible refine wpList_append_one (o := ⟨some 36, _, _, _, _, _⟩) ?b1 (.tmp 28) (.tmp 35) 36 5 ?b2 .u8 1 Tryd.underlying36 infoByte (by decide) w.heap.size (.slice (some ⟨g2, 0, none⟩) xs.length c2) xs ?b3 HV.out ⟨wr.heap.size, 0, none⟩ 1 ((n : Int) * 8 / 2 ^ (8 * m) % 256) ?b4 ?b5 ?b6 ?b7 ?_)
          case b1 => rfl
          case b2 => rfl
          all_goals try (case b3 => rfl)
          all_goals try (case b4 => rfl)
          all_goals try (case b5 => simp [Addr.add])
          case b6 => have := HL.out; omega
          case b7 => have := HSZ.out; simp; omega
          intro v' w3 ho3 hb3
          rw [HN.out] at ho3
          have HO3 := Lib.hid ho3
          have HB3 := Lib.hid (hb3 _ _ HBE.out (Nat.le_refl _))
          clear ho3 hb3 HV HBE
          go_wp2
          exact ⟨⟨m, (m : Int) - 1, by omega, rfl, rfl, HO3.out, HB3.out⟩, by simp [intOf]⟩
end Go.Proofs.YtoeilaedpibboaaDoor
