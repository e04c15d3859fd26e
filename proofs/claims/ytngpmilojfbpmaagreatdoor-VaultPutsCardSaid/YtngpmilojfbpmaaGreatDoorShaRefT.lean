/- The reference's turn and times. -/
import Derived.Test.YtngpmilojfbpmaaGreatDoorShaAlive
import Derived.Deep.QuietTactic
import Derived.BigQuiet
import Derived.OwnWalk
import Derived.Laws.OwnMore
import Derived.Deep.AppendLies
import Derived.Test.YtngpmilojfbpmaaGreatDoorShaSpec
namespace Go.Proofs.YtngpmilojfbpmaaGreatDoor
open Go.RowKit
set_option maxRecDepth 100000

theorem infoU64 : (Tryz.prog.info? 145).map (fun i => (i.zero, i.size, i.bytes)) = some (some (.int .u64 0), 1, 8) := by kernel_rfl
/-- A slice in new memory whose block is known whole. -/
def RowNew (t : TypeId) (k : IntKind) (zs : List Int) (w : World) (e : Ending) (w' : World) : Prop := ∃ b, w.heap.size ≤ b ∧ e = .returned (.slice (some ⟨b, 0, none⟩) zs.length zs.length) ∧ Blk w' b t (ints k zs) ∧ Below w.heap.size w w'
/-- A slice whose block is known whole. -/
def RowAt (w : World) (v : Value) (t : TypeId) (k : IntKind) (zs : List Int) : Prop := ∃ b, v = .slice (some ⟨b, 0, none⟩) zs.length zs.length ∧ Blk w b t (ints k zs)

/-- A product by digits, step by step, in the walk's own forms. -/
def tmT (o x y c : Int) : Int := IntKind.u64.wrap (IntKind.u64.wrap (o + IntKind.u64.wrap (x * y)) + c)
def tmInner (xs ys : List Int) (i : Nat) (out : List Int) : Nat → List Int × Int
  | 0 => (out, 0)
  | j + 1 =>
    let r := tmInner xs ys i out j
    let t := tmT (r.1[i + j]?.getD 0) (xs[i]?.getD 0) (ys[j]?.getD 0) r.2
    (r.1.set (i + j) (bits BinOp.and IntKind.u64 t 65535), t / 65536)
def tmOuter (xs ys : List Int) : Nat → List Int
  | 0 => List.replicate (xs.length + ys.length) 0
  | i + 1 =>
    let r := tmInner xs ys i (tmOuter xs ys i) ys.length
    r.1.set (i + ys.length) (IntKind.u64.wrap (r.1[i + ys.length]?.getD 0 + r.2))
theorem tmInner_length (xs ys : List Int) (i : Nat) (out : List Int) (j : Nat) : (tmInner xs ys i out j).1.length = out.length := by
  induction j with
  | zero => rfl
  | succ j ih => simp [tmInner, ih]
theorem tmOuter_length (xs ys : List Int) (i : Nat) : (tmOuter xs ys i).length = xs.length + ys.length := by
  induction i with
  | zero => simp [tmOuter]
  | succ i ih => simp [tmOuter, tmInner_length, ih]

end Go.Proofs.YtngpmilojfbpmaaGreatDoor
/- The reference's square: the first state by square roots. -/
namespace Go.Proofs.YtngpmilojfbpmaaGreatDoor
open Go.RowKit
set_option maxRecDepth 100000

def sqX (y : Int) (m : Nat) : Int := IntKind.u64.wrap (y + IntKind.u64.wrap (2 ^ m))
def sqLo (x : Int) : Int := bits BinOp.and IntKind.u64 x 4294967295
def sqMid (x : Int) : Int := IntKind.u64.wrap (IntKind.u64.wrap (IntKind.u64.wrap (2 * (x / 4294967296)) * sqLo x) + IntKind.u64.wrap (sqLo x * sqLo x) / 4294967296)
def sqTop (x : Int) : Int := IntKind.u64.wrap (IntKind.u64.wrap (x / 4294967296 * (x / 4294967296)) + sqMid x / 4294967296)
def sqRest (x : Int) : Int := bits BinOp.or IntKind.u64 (IntKind.u64.wrap (bits BinOp.and IntKind.u64 (sqMid x) 4294967295 * 4294967296)) (bits BinOp.and IntKind.u64 (IntKind.u64.wrap (sqLo x * sqLo x)) 4294967295)
def sqStep (p y : Int) (m : Nat) : Int := if p ≤ sqTop (sqX y m) then (if sqTop (sqX y m) = p then (if (sqRest (sqX y m) == 0) = true then sqX y m else y) else y) else sqX y m
/-- The root while the bits 35 down to m are tried. -/
def sqRun (p : Int) : Nat → Int → Int
  | 0, y => y
  | m + 1, y => sqRun p m (sqStep p y m)

theorem sqRun_iv : [2, 3, 5, 7, 11, 13, 17, 19].map (fun p => IntKind.u32.wrap (sqRun p 36 0)) = Sha.iv := by kernel_rfl
end Go.Proofs.YtngpmilojfbpmaaGreatDoor
/- Appending one integer after another; the reference's primes. -/
namespace Go.Proofs.YtngpmilojfbpmaaGreatDoor
open Go.RowKit
set_option maxRecDepth 100000

/-- A slice of the call's own, not nil, of just these integers. -/
def Own (w : World) (base : Nat) (e : TypeId) (k : IntKind) (v : Value) (xs : List Int) : Prop := ∃ g cap, v = .slice (some ⟨g, 0, none⟩) xs.length cap ∧ w.ownsRow base e 1 (.slice (some ⟨g, 0, none⟩) xs.length cap) xs.length (ints k xs)
theorem Own.empty (w : World) (base : Nat) (e : TypeId) (k : IntKind) (hb : base ≤ w.heap.size) : Own (w.alloc (.cells #[] e)) base e k (.slice (some ⟨w.heap.size, 0, none⟩) 0 0) [] :=
  ⟨w.heap.size, 0, rfl, World.ownsRow_made w #[] 0 hb (by unfold maxLen; omega) rfl⟩
theorem Own.cell {w : World} {base : Nat} {e : TypeId} {k : IntKind} {g n cap : Nat} {xs : List Int} (h : w.ownsRow base e 1 (.slice (some ⟨g, 0, none⟩) n cap) n (ints k xs)) {j : Nat} (hj : j < xs.length) : w.cell? ⟨g, j, none⟩ = some (.int k (xs.getD j 0)) := by
  have hn : n = xs.length := by have := h.1; rw [ints_length] at this; omega
  rw [h.cellAt j (by omega)]
  exact ints_getD hj
theorem Own.below {w w' : World} {base : Nat} {e : TypeId} {k : IntKind} {v : Value} {xs : List Int} (h : Own w base e k v xs) (hb : Below w.heap.size w w') : Own w' base e k v xs := by
  obtain ⟨g, cap, hv, ho⟩ := h
  exact ⟨g, cap, hv, ho.kept (row := none) ⟨hb.os, hb.tape, hb.output, hb.size, fun k hk _ => hb.block k hk⟩ (.inr (by simp [Value.ownBlock]))⟩

theorem wpList_append_one {P : Program} {w : World} {ops : Array Oper} {rest : List Oper} {o : Oper} {a : Act} {Q : Exit → Act → World → Prop} (hgd : o.guard = none) (s x : Operand) (t e : TypeId)
    (ho : o.op = .call { callee := .builtin .append, args := #[s, x], argTypes := #[t, t] }) (k : IntKind) (bytes : Nat) (ht : P.underlying t = some (.slice e)) (hinfo : (P.info? e).map (fun i => (i.zero, i.size, i.bytes)) = some (some (.int k 0), 1, bytes)) (hb8 : bytes ≤ 8)
    (base : Nat) (v : Value) (xs : List Int) (hs : a.eval s = v) (hown : Own w base e k v xs) (ad : Addr) (c : Nat) (z : Int) (hx : a.eval x = .slice (some ad) 1 c) (hz : w.cell? (ad.add 0) = some (.int k z)) (hb : xs.length ≤ 8000000000000) (hbase : base ≤ w.heap.size)
    (h : ∀ v' w', Own w' base e k v' (xs ++ [z]) → (∀ B u, Below B u w → B ≤ base → Below B u w') → wpList P ops Q rest (a.put o.dst v') w') : wpList P ops Q (o :: rest) a w := by
  obtain ⟨i0, hi, hz0, hz1, hz2⟩ := info_parts hinfo
  obtain ⟨g, cap, rfl, hown⟩ := hown
  have hbb : (xs.length + 1) * bytes ≤ (xs.length + 1) * 8 := Nat.mul_le_mul_left _ hb8
  refine wpList_append_own w hgd s x t ho base e i0 (.int k 0) 1 bytes ht hi hz0 hz1 hz2 rfl (by decide) _ _ _ hs hown ad 1 c [.int k z] hx rfl ?_ ?_ (by unfold maxLen; omega) (by omega) hbase ?_
  · intro j u hj
    match j, hj with
    | 0, hj => simp at hj; subst hj; exact hz
  · intro u hu; simp at hu; subst hu; rfl
  · intro v' w' h1 h2 h3
    have hl := hown.lt g rfl
    refine h v' w' ?_ fun B u hB hBb => hB.grown h2 (by omega) (fun k hk => by simp [Value.ownBlock] at hk; omega)
    have h1' : w'.ownsRow base e 1 v' (xs ++ [z]).length (ints k (xs ++ [z])) := by
      rw [List.length_append]; simpa [ints] using h1
    rcases id h1' with ⟨hle, ⟨rfl, _⟩ | ⟨g', cap', cur, rfl, rest⟩⟩
    · exact absurd (h3.1 rfl).2 (by omega)
    · exact ⟨g', cap', rfl, h1'⟩

def prRun (p : Nat) : Nat → Nat → Bool → Bool
  | 0, _, b => b
  | f + 1, q, b => if q * q ≤ p then prRun p f (q + 1) (if p % q = 0 then false else b) else b
def prAll (n : Nat) : Nat → Nat → List Int → List Int
  | 0, _, out => out
  | f + 1, p, out => if out.length < n then prAll n f (p + 1) (if prRun p 30 2 true then out ++ [(p : Int)] else out) else out
theorem prAll_8 : prAll 8 320 2 [] = [2, 3, 5, 7, 11, 13, 17, 19] := by kernel_rfl
theorem prAll_64 : (prAll 64 320 2 []).length = 64 := by kernel_rfl

end Go.Proofs.YtngpmilojfbpmaaGreatDoor
/- The reference's First. -/
namespace Go.Proofs.YtngpmilojfbpmaaGreatDoor
open Go.RowKit
set_option maxRecDepth 100000

def sqW (p : Int) : Int := IntKind.u32.wrap (sqRun p 36 0)
def fiTo (ps : List Int) : Nat → List Int
  | 0 => List.replicate 8 0
  | k + 1 => (fiTo ps k).set k (sqW (ps[k]?.getD 0))
theorem fiTo_length (ps : List Int) (k : Nat) : (fiTo ps k).length = 8 := by
  induction k with
  | zero => simp [fiTo]
  | succ k ih => simp [fiTo, ih]
theorem fiTo_iv : fiTo [2, 3, 5, 7, 11, 13, 17, 19] 8 = Sha.iv := by kernel_rfl
structure Fi (w wr : World) (B g cap : Nat) (ps : List Int) (xs : List Int) : Prop where
  r : Blk wr w.heap.size 138 (ints .u32 (List.replicate 8 0))
  o : Blk wr B 138 (ints .u32 xs)
  p : wr.ownsRow (w.heap.size + 1) 145 1 (.slice (some ⟨g, 0, none⟩) 8 cap) 8 (ints .u64 ps)
  bel : Below w.heap.size w wr
  gB : g < B
  rB : w.heap.size < B
theorem Fi.set {w wr : World} {B g cap : Nat} {ps xs : List Int} (h : Fi w wr B g cap ps xs) (i : Nat) (v : Int) : Fi w (wr.setCell ⟨B, i, none⟩ (.int .u32 v)) B g cap ps (xs.set i v) := by
  have h1 := h.gB
  have h2 := h.rB
  refine ⟨h.r.other (by show _ ≠ B; omega) _, ?_, ?_, h.bel.setCell (by show _ ≤ B; omega) _, h1, h2⟩
  · have := h.o.set i (.int .u32 v); rwa [ints_set] at this
  · exact h.p.kept (row := some B) ⟨rfl, rfl, rfl, by simp, fun k _ hk => heap_setCell_other wr ⟨B, i, none⟩ k _ (fun e => hk (by simp [e]))⟩ (.inr (by simp [Value.ownBlock]; omega))

end Go.Proofs.YtngpmilojfbpmaaGreatDoor
/- The reference's below and cube. -/
namespace Go.Proofs.YtngpmilojfbpmaaGreatDoor
open Go.RowKit
set_option maxRecDepth 100000

theorem Own.of_blk {w : World} {base b : Nat} {e : TypeId} {k : IntKind} {xs : List Int} (h : Blk w b e (ints k xs)) (hb : base ≤ b) (hm : xs.length ≤ 1000) : w.ownsRow base e 1 (.slice (some ⟨b, 0, none⟩) xs.length xs.length) xs.length (ints k xs) :=
  ⟨by rw [ints_length]; omega, .inr ⟨b, xs.length, _, rfl, hb, h, Nat.le_refl _, by unfold maxLen; omega, by simp [ints_length], by rw [List.take_of_length_le (by simp [ints_length])]⟩⟩
theorem wpList_append_at {P : Program} {w : World} {ops : Array Oper} {rest : List Oper} {o : Oper} {a : Act} {Q : Exit → Act → World → Prop} (hgd : o.guard = none) (s x : Operand) (t e : TypeId)
    (ho : o.op = .call { callee := .builtin .append, args := #[s, x], argTypes := #[t, t] }) (k : IntKind) (bytes : Nat) (ht : P.underlying t = some (.slice e)) (hinfo : (P.info? e).map (fun i => (i.zero, i.size, i.bytes)) = some (some (.int k 0), 1, bytes)) (hb8 : bytes ≤ 8)
    (base : Nat) (g n cap : Nat) (xs : List Int) (hs : a.eval s = .slice (some ⟨g, 0, none⟩) n cap) (hown : w.ownsRow base e 1 (.slice (some ⟨g, 0, none⟩) n cap) n (ints k xs)) (ad : Addr) (c : Nat) (z : Int) (hx : a.eval x = .slice (some ad) 1 c) (hz : w.cell? (ad.add 0) = some (.int k z)) (hb : n ≤ 8000000000000) (hbase : base ≤ w.heap.size)
    (h : ∀ g' cap' w', w'.ownsRow base e 1 (.slice (some ⟨g', 0, none⟩) (n + 1) cap') (n + 1) (ints k (xs ++ [z])) → w.grownBy w' (some g) → (g' = g ∨ g' = w.heap.size) → g' < w'.heap.size → wpList P ops Q rest (a.put o.dst (.slice (some ⟨g', 0, none⟩) (n + 1) cap')) w') : wpList P ops Q (o :: rest) a w := by
  obtain ⟨i0, hi, hz0, hz1, hz2⟩ := info_parts hinfo
  have hbb : (n + 1) * bytes ≤ (n + 1) * 8 := Nat.mul_le_mul_left _ hb8
  refine wpList_append_lies w hgd s x t ho base e i0 (.int k 0) 1 bytes ht hi hz0 hz1 hz2 rfl (by decide) _ _ _ hs hown ad 1 c [.int k z] hx rfl ?_ ?_ (by decide) (by unfold maxLen; omega) (by omega) hbase _ rfl ?_
  · intro j u hj
    match j, hj with
    | 0, hj => simp at hj; subst hj; exact hz
  · intro u hu; simp at hu; subst hu; rfl
  · intro g' cap' w' h1 h2 h3 h4
    refine h g' cap' w' (by simpa [ints] using h1) h2 ?_ h4
    rcases h3 with h3 | h3
    · simp [Value.ownBlock] at h3; exact .inl h3.symm
    · exact .inr h3

def lenOf' : Value → Nat
  | .slice _ n _ => n
  | _ => 0
def beD (y : Int) : List Int := [bits BinOp.and IntKind.u64 y 65535, bits BinOp.and IntKind.u64 (y / 65536) 65535, y / 4294967296]
def beS (y : Int) : List Int := tmOuter (tmOuter (beD y) (beD y) 3) (beD y) 6
def beW (p : Int) : List Int := (List.replicate 16 0).set 6 p
def beCmp (ss ws : List Int) : Nat → Bool
  | 0 => true
  | m + 1 => if ss[m]?.getD 0 = ws[m]?.getD 0 then beCmp ss ws m else decide (ss[m]?.getD 0 < ws[m]?.getD 0)
def beF (y p : Int) : Bool := beCmp (beS y ++ List.replicate 7 0) (beW p) 16
theorem beS_eq (y : Int) : tmOuter (tmOuter (beD y) (beD y) 3) (beD y) 6 = beS y := by rw [beS]
theorem beD_length (y : Int) : (beD y).length = 3 := rfl
theorem be1_length (y : Int) : (tmOuter (beD y) (beD y) 3).length = 6 := by rw [tmOuter_length]; rfl
theorem beS_length (y : Int) : (beS y).length = 9 := by rw [beS, tmOuter_length, be1_length]; rfl
attribute [local irreducible] tmOuter beS
end Go.Proofs.YtngpmilojfbpmaaGreatDoor
/- The reference's cube and constants. -/
namespace Go.Proofs.YtngpmilojfbpmaaGreatDoor
open Go.RowKit
set_option maxRecDepth 100000

def cuX (y : Int) (m : Nat) : Int := IntKind.u64.wrap (y + IntKind.u64.wrap (2 ^ m))
def cuStep (p y : Int) (m : Nat) : Int := if beF (cuX y m) p = true then cuX y m else y
def cuRun (p : Int) : Nat → Int → Int
  | 0, y => y
  | m + 1, y => cuRun p m (cuStep p y m)
def cuW (p : Int) : Int := IntKind.u32.wrap (cuRun p 35 0)

theorem infoU32 : (Tryz.prog.info? 137).map (fun i => (i.zero, i.size, i.bytes)) = some (some (.int .u32 0), 1, 4) := by kernel_rfl
def coTo (ps : List Int) : Nat → List Int
  | 0 => []
  | k + 1 => coTo ps k ++ [cuW (ps[k]?.getD 0)]
theorem coTo_length (ps : List Int) (k : Nat) : (coTo ps k).length = k := by
  induction k with
  | zero => rfl
  | succ k ih => simp [coTo, ih]
end Go.Proofs.YtngpmilojfbpmaaGreatDoor
/- The reference's taken is Compress with the table's constants. -/
namespace Go.Proofs.YtngpmilojfbpmaaGreatDoor
open Go.RowKit
set_option maxRecDepth 100000

/-- The first t words of a block's schedule. -/
def schedTo (bs : List Int) (t : Nat) : List Int := if t ≤ 16 then Sha.firstWords bs t else Sha.sched bs (t - 16)
theorem schedTo_length (bs : List Int) (t : Nat) : (schedTo bs t).length = t := by
  unfold schedTo; split
  · exact Sha.firstWords_length _ _
  · rw [Sha.sched_length]; omega
theorem schedTo_low (bs : List Int) (t : Nat) (h : t < 16) : schedTo bs (t + 1) = schedTo bs t ++ [Sha.wordAt bs t] := by
  unfold schedTo; rw [if_pos (by omega), if_pos (by omega)]; rfl
theorem schedTo_16 (bs : List Int) (t : Nat) (h : 16 ≤ t) : schedTo bs t = Sha.sched bs (t - 16) := by
  unfold schedTo; split
  · have : t = 16 := by omega
    subst this; rfl
  · rfl
theorem schedTo_high (bs : List Int) (t : Nat) (h : 16 ≤ t) : schedTo bs (t + 1) = schedTo bs t ++ [Sha.nextWord ((schedTo bs t)[t - 16]?.getD 0) ((schedTo bs t)[t - 15]?.getD 0) ((schedTo bs t)[t - 7]?.getD 0) ((schedTo bs t)[t - 2]?.getD 0)] := by
  obtain ⟨n, rfl⟩ : ∃ n, t = 16 + n := ⟨t - 16, by omega⟩
  rw [schedTo_16 _ _ (by omega), schedTo_16 _ _ (by omega), show 16 + n + 1 - 16 = n + 1 by omega, show 16 + n - 16 = n by omega, show 16 + n - 15 = n + 1 by omega, show 16 + n - 7 = n + 9 by omega, show 16 + n - 2 = n + 14 by omega]
  rfl
def schedZ (bs : List Int) (t : Nat) : List Int := schedTo bs t ++ List.replicate (64 - t) 0
theorem schedZ_length (bs : List Int) (t : Nat) (h : t ≤ 64) : (schedZ bs t).length = 64 := by simp [schedZ, schedTo_length]; omega
theorem schedZ_get (bs : List Int) (t j : Nat) (h : j < t) : (schedZ bs t).getD j 0 = (schedTo bs t)[j]?.getD 0 := by
  simp only [schedZ, List.getD_eq_getElem?_getD]
  rw [List.getElem?_append_left (by rw [schedTo_length]; omega)]
theorem schedZ_set (bs : List Int) (t : Nat) (h : t < 64) (v : Int) (hn : schedTo bs (t + 1) = schedTo bs t ++ [v]) : (schedZ bs t).set t v = schedZ bs (t + 1) := by
  have := Sha.set_zeros (schedTo bs t) (64 - (t + 1)) v
  rw [schedTo_length, show 64 - (t + 1) + 1 = 64 - t by omega] at this
  rw [schedZ, this, schedZ, hn]

theorem Blk.to {w : World} {b b' : Nat} {t : TypeId} {cs cs' : List Value} (h : Blk w b t cs) (e : b = b') (e2 : cs = cs') : Blk w b' t cs' := by subst e; subst e2; exact h
theorem step_list (s : Sha.St) (k w : Int) : (Sha.step s k w).list = [(s.h + Sha.bsig1 s.e + Sha.cho s.e s.f s.g + k + w + (Sha.bsig0 s.a + Sha.maj s.a s.b s.c)) % 4294967296, s.a, s.b, s.c, (s.d + (s.h + Sha.bsig1 s.e + Sha.cho s.e s.f s.g + k + w)) % 4294967296, s.e, s.f, s.g] := by
  unfold Sha.step Sha.St.list Sha.t1 Sha.t2
  simp only [Int.emod_add_emod, Int.add_emod_emod]
def outTo (st l : List Int) : Nat → List Int
  | 0 => List.replicate 8 0
  | j + 1 => (outTo st l j).set j ((st.getD j 0 + l.getD j 0) % 4294967296)
theorem outTo_length (st l : List Int) (j : Nat) : (outTo st l j).length = 8 := by
  induction j with
  | zero => simp [outTo]
  | succ j ih => simp [outTo, ih]
theorem outTo_8 (s0 s1 s2 s3 s4 s5 s6 s7 : Int) (s : Sha.St) : outTo [s0, s1, s2, s3, s4, s5, s6, s7] s.list 8 = Sha.addTo [s0, s1, s2, s3, s4, s5, s6, s7] s.list 8 := rfl
/-- What lies in memory while a block is taken. -/
structure Tk (st bs : List Int) (w wr : World) : Prop where
  b0 : Blk wr w.heap.size 138 (ints .u32 st)
  b1 : Blk wr (w.heap.size + 1) 76 (ints .u8 bs)
  b2 : Blk wr (w.heap.size + 1 + 1) 138 (ints .u32 (List.replicate 8 0))
  bel : Below w.heap.size w wr
theorem Tk.upd {st bs : List Int} {w wr wr' : World} (h : Tk st bs w wr) {b : Nat} (hu : Upd b wr wr') (hb : w.heap.size + 1 + 1 < b) : Tk st bs w wr' :=
  ⟨hu.blk h.b0 (by omega), hu.blk h.b1 (by omega), hu.blk h.b2 (by omega), hu.below h.bel (by omega) h.bel.size⟩

end Go.Proofs.YtngpmilojfbpmaaGreatDoor
/- The reference's Pad is the program's. -/
namespace Go.Proofs.YtngpmilojfbpmaaGreatDoor
open Go.RowKit
set_option maxRecDepth 100000

theorem pad_first (n : Nat) : (Sha.pad n).take (Sha.padSize n - 8) = 128 :: List.replicate (Sha.padSize n - 9) 0 := by
  have hb := Sha.padSize_bounds n
  apply List.ext_getElem?
  intro i
  rw [List.getElem?_take]
  by_cases hi : i < Sha.padSize n - 8
  · rw [if_pos hi, Sha.pad_get n i (by omega)]
    cases i with
    | zero => simp
    | succ i => rw [if_neg (by omega), if_neg (by omega), List.getElem?_cons_succ, List.getElem?_replicate, if_pos (by omega)]
  · rw [if_neg hi, List.getElem?_eq_none (by simp; omega)]
theorem pad_next (n m : Nat) (hm : m < 8) : (Sha.pad n).take (Sha.padSize n - (m + 1)) ++ [(n : Int) * 8 / 2 ^ (8 * m) % 256] = (Sha.pad n).take (Sha.padSize n - m) := by
  have hb := Sha.padSize_bounds n
  rw [show Sha.padSize n - m = Sha.padSize n - (m + 1) + 1 by omega, List.take_add_one, Sha.pad_get n _ (by omega), if_neg (by omega), if_pos (by omega), show Sha.padSize n - 1 - (Sha.padSize n - (m + 1)) = m by omega]
  rfl
def OwnPost (e : TypeId) (k : IntKind) (xs : List Int) (w : World) (r : Ending) (w' : World) : Prop := ∃ v, r = .returned v ∧ Own w' w.heap.size e k v xs ∧ Below w.heap.size w w'
theorem own_one (w : World) (e : TypeId) (k : IntKind) (z : Int) : Own (w.alloc (.cells #[.int k z] e)) w.heap.size e k (.slice (some ⟨w.heap.size, 0, none⟩) 1 1) [z] :=
  ⟨w.heap.size, 1, rfl, Own.of_blk (xs := [z]) (Blk.new2 _ _ _ _ _ rfl rfl) (Nat.le_refl _) (by simp)⟩
end Go.Proofs.YtngpmilojfbpmaaGreatDoor
