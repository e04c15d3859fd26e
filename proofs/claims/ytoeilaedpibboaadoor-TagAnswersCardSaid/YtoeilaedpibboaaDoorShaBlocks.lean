/- ShaBlocks answers true. -/
import Derived.Test.YtoeilaedpibboaaDoorShaParts
import Derived.Test.YtoeilaedpibboaaDoorShaSpec
import Derived.Deep.QuietTactic
import Derived.BigQuiet
import Derived.Deep.Cut
import Derived.Deep.DeepCutAuto
namespace Go.Proofs.YtoeilaedpibboaaDoor
open Go.RowKit

/-- In a region that only reads: a whole array out of the middle of a block. -/
theorem wpStill_load_mid {P : Program} {ops : Array Oper} {w : World} {Q : Act → Prop} {a : Act} {op : Oper} {rest : List Oper} (hgd : op.guard = none) (ty : TypeId) (x : Operand) (ho : op.op = .load ty x)
    (b o : Nat) (hx : a.eval x = .pointer (some ⟨b, o, none⟩)) (cs : List Value) (d : TypeDesc) (hc : w.rangeAt b o cs)
    (hu : P.underlying ty = some d) (hd : d.isRow = true) (hi : (P.info? ty).map (·.size) = some cs.length)
    (h : wpStill P ops w Q rest (a.put op.dst (.agg cs.toArray))) : wpStill P ops w Q (op :: rest) a := by
  refine wpStill_step fun K hK => ?_
  rw [if_pos (by simp [Region.wanted, hgd])]
  unfold Oper.still execOp
  simp only [ho, hx, Instr.loadAt, Instr.sureAddr, Sem.run_bind, Sem.run_pure, Result.andThen_ok, run_loadVar_mid w b o ty cs d hc hu hd hi]
  exact ⟨rfl, hK _ h⟩

/-- The value v is a slice of blocks of 64 bytes each. -/
def BlocksIn (w : World) (v : Value) (zss : List (List Int)) : Prop :=
  ∃ (a : Option Addr) (cap : Nat), v = .slice a zss.length cap ∧ (∀ zs ∈ zss, zs.length = 64) ∧
    (0 < zss.length → ∃ qb qo, a = some ⟨qb, qo, none⟩ ∧ qb < w.heap.size ∧ ∀ (k : Nat) (zs : List Int), zss[k]? = some zs → w.rangeAt qb (qo + k * 64) (ints .u8 zs))

/-- The state and the bytes of the first k blocks. -/
structure Chain (w wr : World) (B sB : Nat) (al : Value) (st msg : List Int) : Prop where
  s : Blk wr sB 68 (ints .u32 st)
  own : wr.ownsRow B 5 1 al msg.length (ints .u8 msg)
  bel : Below w.heap.size w wr
  hB : w.heap.size ≤ B
  hs : w.heap.size ≤ sB
  BS : B ≤ wr.heap.size
theorem Chain.ne {w wr : World} {B sB : Nat} {al : Value} {st msg : List Int} (t : Chain w wr B sB al st msg) : ∀ g, al.ownBlock = some g → g ≠ sB := by
  intro g hg e
  obtain ⟨_, h2⟩ := t.own
  rcases h2 with ⟨rfl, _⟩ | ⟨g', cap, cur, rfl, _, hh, _⟩
  · cases hg
  · obtain rfl : g' = g := by simpa [Value.ownBlock] using hg
    have := t.s
    unfold Blk at this
    rw [← e, hh] at this
    cases this
theorem Chain.next {w w1 w2 : World} {B sB : Nat} {al : Value} {st msg : List Int} (t : Chain w w1 B sB al st msg) (hb : Below w1.heap.size w1 w2) : Chain w w2 B sB al st msg :=
  ⟨t.s.below hb t.s.lt, owns_same t.own (fun g hg => hb.block g (owns_lt t.own g hg)), t.bel.trans (hb.mono t.bel.size), t.hB, t.hs, Nat.le_trans t.BS hb.size⟩
theorem Chain.upd {w w1 w2 : World} {B sB : Nat} {al : Value} {st st2 msg : List Int} (t : Chain w w1 B sB al st msg) (hu : Upd sB w1 w2) (hs : Blk w2 sB 68 (ints .u32 st2)) : Chain w w2 B sB al st2 msg :=
  ⟨hs, owns_same t.own (fun g hg => hu.block g (owns_lt t.own g hg) (t.ne g hg)), hu.below t.bel t.hs t.bel.size, t.hB, t.hs, Nat.le_trans t.BS hu.size⟩
theorem Chain.app {w w1 w2 : World} {B sB : Nat} {al al2 : Value} {st msg msg2 : List Int} (t : Chain w w1 B sB al st msg) (hg : w1.grownBy w2 al.ownBlock) (ho : w2.ownsRow B 5 1 al2 msg2.length (ints .u8 msg2)) : Chain w w2 B sB al2 st msg2 :=
  ⟨by
    unfold Blk
    rw [hg.block sB t.s.lt (fun e => t.ne sB e.symm rfl)]
    exact t.s, ho, t.bel.grown hg t.bel.size (fun k hk => Nat.le_trans t.hB (owns_row t.own k hk)), t.hB, t.hs, Nat.le_trans t.BS hg.size⟩

theorem flat_length (zss : List (List Int)) (h : ∀ zs ∈ zss, zs.length = 64) : zss.flatten.length = 64 * zss.length := by
  induction zss with
  | nil => rfl
  | cons z r ih =>
    rw [List.flatten_cons, List.length_append, h z (by simp), ih (fun zs hz => h zs (by simp [hz])), List.length_cons]; omega
theorem flat_block (zss : List (List Int)) (h : ∀ zs ∈ zss, zs.length = 64) (k : Nat) (zs : List Int) (hk : zss[k]? = some zs) : (zss.flatten.drop (64 * k)).take 64 = zs := by
  induction zss generalizing k with
  | nil => simp at hk
  | cons z r ih =>
    have hz : z.length = 64 := h z (by simp)
    cases k with
    | zero =>
      simp at hk; subst hk
      rw [Nat.mul_zero, List.drop_zero, List.flatten_cons, ← hz, List.take_left']; rfl
    | succ k =>
      rw [List.flatten_cons, show 64 * (k + 1) = z.length + 64 * k by omega, ← List.drop_drop, List.drop_left']
      · exact ih (fun zs hz => h zs (by simp [hz])) k (by simpa using hk)
      · rfl

end Go.Proofs.YtoeilaedpibboaaDoor
