/- Bytes that lie somewhere, and the statements' own helpers on them (CopyBytes, SameBytes), for a program without package sha. -/
import Derived.Test.YtoeilaedpibboaaDoorProg
import Derived.Test.YtoeilaedpibboaaDoorShaBlk
import Derived.Lib.Hide
import Derived.Laws.AppendOwnNone
import Derived.OwnWalk
import Derived.Deep.QuietTactic
import Derived.BigQuiet
namespace Go.Proofs.YtoeilaedpibboaaDoor
open Go.RowKit
set_option maxRecDepth 100000

/-- The value v is a slice of just the bytes zs. -/
def BytesIn (w : World) (v : Value) (zs : List Int) : Prop :=
  ∃ a cap, v = .slice a zs.length cap ∧ zs.length ≤ cap ∧ (0 < zs.length → ∃ pb po, a = some ⟨pb, po, none⟩ ∧ pb < w.heap.size ∧ w.rangeAt pb po (ints .u8 zs))
theorem BytesIn.below {B : Nat} {w w' : World} {v : Value} {zs : List Int} (h : BytesIn w v zs) (hb : Below B w w') (hB : w.heap.size ≤ B) : BytesIn w' v zs := by
  obtain ⟨a, cap, h1, h2, h3⟩ := h
  refine ⟨a, cap, h1, h2, fun hp => ?_⟩
  obtain ⟨pb, po, h4, h5, h6⟩ := h3 hp
  exact ⟨pb, po, h4, Nat.lt_of_lt_of_le h5 hb.size, fun j u hu => by rw [hb.cell (p := ⟨pb, po + j, none⟩) (Nat.lt_of_lt_of_le h5 hB)]; exact h6 j u hu⟩
/-- A slice whose block is just its bytes. -/
theorem bytes_blk {w : World} {b n : Nat} {zs : List Int} (h : Blk w b 5 (ints .u8 zs)) (hn : zs.length = n) : BytesIn w (.slice (some ⟨b, 0, none⟩) n n) zs := by
  subst hn
  exact ⟨some ⟨b, 0, none⟩, zs.length, rfl, Nat.le_refl _, fun _ => ⟨b, 0, rfl, h.lt, h.whole⟩⟩
theorem bytes_nil (w : World) : BytesIn w (.slice none 0 0) [] := ⟨none, 0, rfl, Nat.le_refl _, fun h => absurd h (by simp)⟩
theorem below_drewN (w : World) (n : Nat) : Below w.heap.size w (w.drewN n) := ⟨rfl, rfl, rfl, Nat.le_refl _, fun _ _ => rfl⟩
theorem infoByte : (Tryd.prog.info? 5).map (fun i => (i.zero, i.size, i.bytes)) = some (some (.int .u8 0), 1, 1) := by kernel_rfl
theorem infoByte5 : (Tryd.prog.info? 5).map (fun i => (i.zero, i.size, i.bytes)) = some (some (.int .u8 0), 1, 1) := infoByte
/-- A nil slice is empty and without capacity. -/
def NilOk : Value → Prop
  | .slice none l c => l = 0 ∧ c = 0
  | _ => True
theorem owns_bytes {w : World} {base n : Nat} {v : Value} {zs : List Int} (h : w.ownsRow base 5 1 v n (ints .u8 zs)) : BytesIn w v zs := by
  obtain ⟨h1, h2⟩ := h
  have hn : zs.length = n := by rw [ints_length] at h1; omega
  rcases h2 with ⟨rfl, hn0⟩ | ⟨g, cap, cur, rfl, _, hg, hc, _, hs, ht⟩
  · refine ⟨none, 0, by rw [hn, hn0], by omega, fun h => by omega⟩
  · subst hn
    refine ⟨some ⟨g, 0, none⟩, cap, rfl, hc, fun _ => ⟨g, 0, rfl, (Array.getElem?_eq_some_iff.1 hg).1, fun j v hv => ?_⟩⟩
    rw [cell_of_row w g (0 + j) cur 5 (0, 0) hg, Nat.zero_add]
    rw [← ht, List.getElem?_take] at hv
    split at hv
    · simpa using hv
    · cases hv
theorem owns_nilok {w : World} {base n : Nat} {v : Value} {xs : List Value} (h : w.ownsRow base 5 1 v n xs) : NilOk v := by
  obtain ⟨_, h2⟩ := h
  rcases h2 with ⟨rfl, _⟩ | ⟨g, cap, cur, rfl, _⟩
  · exact ⟨rfl, rfl⟩
  · trivial
/-- append(dst, src...): dst the call's own, src whatever bytes lie somewhere. -/
theorem wpList_append_bytes {w : World} {ops : Array Oper} {rest : List Oper} {o : Oper} {a : Act} {Q : Exit → Act → World → Prop} (hgd : o.guard = none) (s x : Operand)
    (ho : o.op = .call { callee := .builtin .append, args := #[s, x], argTypes := #[36, 36] }) (base : Nat) (v : Value) (xs : List Int) (hs : a.eval s = v) (hown : w.ownsRow base 5 1 v xs.length (ints .u8 xs))
    (u : Value) (zs : List Int) (hx : a.eval x = u) (hu : BytesIn w u zs) (hnil : NilOk u) (hb : xs.length + zs.length ≤ 70368744177664) (hbase : base ≤ w.heap.size)
    (h : ∀ v' w', w'.ownsRow base 5 1 v' (xs ++ zs).length (ints .u8 (xs ++ zs)) → w.grownBy w' v.ownBlock → wpList Tryd.prog ops Q rest (a.put o.dst v') w') : wpList Tryd.prog ops Q (o :: rest) a w := by
  obtain ⟨i0, hi, hz0, hz1, hz2⟩ := info_parts infoByte5
  obtain ⟨sa, c, rfl, hc, hp⟩ := hu
  cases sa with
  | none =>
    obtain ⟨h1, h2⟩ := hnil
    subst h2
    have hz : zs = [] := List.eq_nil_of_length_eq_zero h1
    subst hz
    refine wpList_append_own_none hgd s x 36 ho base 5 i0 1 Tryd.underlying36 hi v _ _ hs hown (by rw [hx]; rfl) ?_
    rw [List.append_nil] at h
    exact h v w hown ⟨rfl, rfl, rfl, Nat.le_refl _, fun _ _ _ => rfl⟩
  | some ad =>
    refine wpList_append_own w hgd s x 36 ho base 5 i0 (.int .u8 0) 1 1 Tryd.underlying36 hi hz0 hz1 hz2 rfl (by decide) v _ _ hs hown ad zs.length c (ints .u8 zs) hx (by rw [ints_length]; omega) ?_ (ints_one _ _) (by unfold maxLen; omega) (by omega) hbase ?_
    · intro j u hj
      have hl : j < zs.length := by have := (List.getElem?_eq_some_iff.1 hj).1; rwa [ints_length] at this
      obtain ⟨pb, po, e, _, hr⟩ := hp (by omega)
      obtain rfl := Option.some.inj e
      rw [Addr.add_mid]
      exact hr j u hj
    · intro v' w' h1 h2 _
      refine h v' w' ?_ h2
      rw [List.length_append]
      simpa [ints] using h1
def CopyPost (zs : List Int) (w : World) (e : Ending) (w' : World) : Prop := ∃ v, e = .returned v ∧ w'.ownsRow w.heap.size 5 1 v zs.length (ints .u8 zs) ∧ Below w.heap.size w w'
theorem owns_empty (w : World) (base : Nat) (hb : base ≤ w.heap.size) : (w.alloc (.cells #[] 5)).ownsRow base 5 1 (.slice (some ⟨w.heap.size, 0, none⟩) 0 0) 0 [] :=
  ⟨rfl, Or.inr ⟨w.heap.size, 0, #[], rfl, hb, heap_alloc_last w _, Nat.le_refl _, by unfold maxLen; omega, rfl, rfl⟩⟩
theorem owns_row {w : World} {base n : Nat} {v : Value} {xs : List Value} (h : w.ownsRow base 5 1 v n xs) : ∀ k, v.ownBlock = some k → base ≤ k := by
  obtain ⟨_, h2⟩ := h
  rcases h2 with ⟨rfl, _⟩ | ⟨g, cap, cur, rfl, hg, _⟩
  · intro k hk; cases hk
  · intro k hk
    obtain rfl : g = k := by simpa [Value.ownBlock] using hk
    exact hg
theorem owns_lt {w : World} {base n : Nat} {v : Value} {xs : List Value} (h : w.ownsRow base 5 1 v n xs) : ∀ g, v.ownBlock = some g → g < w.heap.size := by
  obtain ⟨_, h2⟩ := h
  rcases h2 with ⟨rfl, _⟩ | ⟨g, cap, cur, rfl, _, hg, _⟩
  · intro k hk; cases hk
  · intro k hk
    obtain rfl : g = k := by simpa [Value.ownBlock] using hk
    exact (Array.getElem?_eq_some_iff.1 hg).1
theorem sameb_true (v1 v2 : Value) (zs : List Int) (w : World) (h1 : BytesIn w v1 zs) (h2 : BytesIn w v2 zs) (hm : zs.length ≤ 4611686018427387904) :
    Calls Tryd.prog 20 #[v1, v2] w fun e w' => e = .returned (.bool true) ∧ ∃ n, w' = w.drewN n := by
  obtain ⟨a1, c1, rfl, hc1, hp1⟩ := h1
  obtain ⟨a2, c2, rfl, hc2, hp2⟩ := h2
  have HP1 := Lib.hid hp1
  have HP2 := Lib.hid hp2
  obtain ⟨m, em⟩ : ∃ m, Hid (m = zs.length) := ⟨_, rfl⟩
  rw [← em.out] at hm ⊢
  have hne : ((m : Int) != (m : Int)) = false := by simp
  clear hp1 hp2 hc1 hc2
  go_enter Tryd.func20, Tryd.ntmps20
  go_wp2
  go_loopw [5] (fun i wr => ∃ k : Nat, k ≤ m ∧ i = .int .i64 k ∧ ∃ n, wr = w.drewN n) (fun i _ => m - (intOf i).toNat)
  case atStart => exact ⟨0, by omega, rfl, 0, rfl⟩
  case round =>
    obtain ⟨k, hk, rfl, n, rfl⟩ := hrel
    by_cases hlt : k < m
    · obtain ⟨p1, o1, rfl, _, r1⟩ := HP1.out (by rw [← em.out]; omega)
      obtain ⟨p2, o2, rfl, _, r2⟩ := HP2.out (by rw [← em.out]; omega)
      have d1 : w.cell? ⟨p1, o1 + k, none⟩ = some (.int .u8 (zs.getD k 0)) := r1 k _ (ints_getD (by rw [← em.out]; exact hlt))
      have d2 : w.cell? ⟨p2, o2 + k, none⟩ = some (.int .u8 (zs.getD k 0)) := r2 k _ (ints_getD (by rw [← em.out]; exact hlt))
      have q0 : (k : Int) < (m : Int) := by omega
      generalize zs.getD k 0 = x at *
      have hx : (x != x) = false := by simp
      clear r1 r2
      go_wp2
      go_quiet (fail)
      go_wp2
      go_roundw
      case rel => exact ⟨k + 1, by omega, by go_num, n + nq, by simp [World.drewN]⟩
      case measure => simp [intOf]; omega
    · have q0 : ¬ ((k : Int) < (m : Int)) := by omega
      go_wp2
      go_ret
      exact ⟨rfl, n, rfl⟩
theorem first_diff {α : Type} [DecidableEq α] (z : α) : ∀ (xs ys : List α), xs.length = ys.length → xs ≠ ys → ∃ k, k < xs.length ∧ xs.getD k z ≠ ys.getD k z ∧ ∀ j, j < k → xs.getD j z = ys.getD j z
  | [], [], _, h => absurd rfl h
  | [], _ :: _, h, _ => by simp at h
  | _ :: _, [], h, _ => by simp at h
  | x :: xs, y :: ys, hl, hne => by
    by_cases h : x = y
    · subst h
      obtain ⟨k, h1, h2, h3⟩ := first_diff z xs ys (by simpa using hl) (fun e => hne (by rw [e]))
      refine ⟨k + 1, by simpa using h1, by simpa using h2, fun j hj => ?_⟩
      cases j with
      | zero => rfl
      | succ j => simpa using h3 j (by omega)
    · exact ⟨0, by simp, by simpa using h, fun j hj => absurd hj (by omega)⟩
theorem sameb_short (a1 a2 : Option Addr) (m1 m2 c1 c2 : Nat) (w : World) (hne : m1 ≠ m2) : Calls Tryd.prog 20 #[.slice a1 m1 c1, .slice a2 m2 c2] w fun e w' => e = .returned (.bool false) ∧ ∃ n, w' = w.drewN n := by
  have h1 : ((m1 : Int) != (m2 : Int)) = true := by simp; omega
  clear hne
  go_enter Tryd.func20, Tryd.ntmps20
  go_wp2
  go_ret
  exact ⟨rfl, 0, rfl⟩
theorem sameb_false (v1 v2 : Value) (xs ys : List Int) (w : World) (h1 : BytesIn w v1 xs) (h2 : BytesIn w v2 ys) (hm : xs.length ≤ 4611686018427387904) (hne : xs ≠ ys) :
    Calls Tryd.prog 20 #[v1, v2] w fun e w' => e = .returned (.bool false) ∧ ∃ n, w' = w.drewN n := by
  obtain ⟨a1, c1, rfl, hc1, hp1⟩ := h1
  obtain ⟨a2, c2, rfl, hc2, hp2⟩ := h2
  by_cases hl : xs.length = ys.length
  · obtain ⟨d, hd1, hd2, hd3⟩ := first_diff 0 xs ys hl hne
    have HP1 := Lib.hid hp1
    have HP2 := Lib.hid hp2
    have HD3 := Lib.hid hd3
    have HD2 := Lib.hid hd2
    obtain ⟨m, em⟩ : ∃ m, Hid (m = xs.length) := ⟨_, rfl⟩
    rw [← hl]
    rw [← em.out] at hm hd1 ⊢
    have EL : Hid (m = ys.length) := em.out.trans hl
    have hne : ((m : Int) != (m : Int)) = false := by simp
    clear hp1 hp2 hc1 hc2 hl hd3 hd2 hne
    have hne : ((m : Int) != (m : Int)) = false := by simp
    go_enter Tryd.func20, Tryd.ntmps20
    go_wp2
    go_loopw [5] (fun i wr => ∃ k : Nat, k ≤ d ∧ i = .int .i64 k ∧ ∃ n, wr = w.drewN n) (fun i _ => m - (intOf i).toNat)
    case atStart => exact ⟨0, by omega, rfl, 0, rfl⟩
    case round =>
      obtain ⟨k, hk, rfl, n, rfl⟩ := hrel
      have hlt : k < m := by omega
      obtain ⟨p1, o1, rfl, _, r1⟩ := HP1.out (by rw [← em.out]; omega)
      obtain ⟨p2, o2, rfl, _, r2⟩ := HP2.out (by rw [← EL.out]; omega)
      have d1 : w.cell? ⟨p1, o1 + k, none⟩ = some (.int .u8 (xs.getD k 0)) := r1 k _ (ints_getD (by rw [← em.out]; exact hlt))
      have d2 : w.cell? ⟨p2, o2 + k, none⟩ = some (.int .u8 (ys.getD k 0)) := r2 k _ (ints_getD (by rw [← EL.out]; exact hlt))
      have q0 : (k : Int) < (m : Int) := by omega
      clear r1 r2
      by_cases hkd : k = d
      · have hx : (xs.getD k 0 != ys.getD k 0) = true := by rw [hkd, bne_iff_ne]; exact HD2.out
        generalize xs.getD k 0 = x at *
        generalize ys.getD k 0 = y at *
        clear hkd
        go_wp2
        go_quiet (fail)
        go_wp2
        go_ret
        exact ⟨rfl, n + nq, by simp [World.drewN]; omega⟩
      · have hx : (xs.getD k 0 != ys.getD k 0) = false := by rw [HD3.out k (by omega)]; simp
        generalize xs.getD k 0 = x at *
        generalize ys.getD k 0 = y at *
        go_wp2
        go_quiet (fail)
        go_wp2
        go_roundw
        case rel => exact ⟨k + 1, by omega, by go_num, n + nq, by simp [World.drewN]⟩
        case measure => simp [intOf]; omega
  · exact sameb_short a1 a2 _ _ c1 c2 w hl
theorem sameb_walk (v1 v2 : Value) (xs ys : List Int) (w : World) (h1 : BytesIn w v1 xs) (h2 : BytesIn w v2 ys) (hm : xs.length ≤ 4611686018427387904) :
    Calls Tryd.prog 20 #[v1, v2] w fun e w' => e = .returned (.bool (decide (xs = ys))) ∧ ∃ n, w' = w.drewN n := by
  by_cases h : xs = ys
  · subst h
    rw [decide_eq_true rfl]
    exact sameb_true v1 v2 xs w h1 h2 hm
  · rw [decide_eq_false h]
    exact sameb_false v1 v2 xs ys w h1 h2 hm h
theorem BytesIn.drewN {w : World} {v : Value} {zs : List Int} (h : BytesIn w v zs) (n : Nat) : BytesIn (w.drewN n) v zs := h
theorem ret_bool {a b : Bool} (h : a = b) : Ending.returned (.bool a) = .returned (.bool b) := by rw [h]
theorem below_quiet {w w1 w2 : World} (h : Below w.heap.size w w1) (hq : ∃ n, w2 = w1.drewN n) : Below w.heap.size w w2 := by
  obtain ⟨n, rfl⟩ := hq
  exact h.trans ((below_drewN w1 n).mono h.size)
theorem results_cell_tmp {P : Program} {fn : Func} {p q : Tmp} {ty : TypeId} (h : fn.results = #[.cell p ty, .tmp q]) (tmps : Array Value) (w : World) (g : Nat) (t : TypeId) (cs : Array Value) (fr : Nat × Nat) (d : TypeDesc) (v : Value)
    (hp : tmps.getD p undef = .pointer (some ⟨g, 0, none⟩)) (hq : tmps.getD q undef = v) (hg : w.heap[g]? = some (.cells cs t fr))
    (hu : P.underlying ty = some d) (hd : (match d with | .struct _ | .array _ _ => true | _ => false) = true) (hi : (P.info? ty).map (·.size) = some cs.size) :
    (results fn tmps).run P w = .ok (.tuple #[.agg cs, v]) w := by
  have hp' : tmps[p]?.getD undef = .pointer (some ⟨g, 0, none⟩) := by simpa using hp
  have hq' : tmps[q]?.getD undef = v := by simpa using hq
  simp [results, h, hp', hq', asAddr, run_loadVar_row w g t ty cs fr d hg hu hd hi]
theorem exec_indexAt {P : Program} {a : Act} {w : World} {op : Oper} (t : TypeId) (x ix : Operand) (ho : op.op = .indexAddr t x ix) (vx vi p : Value) (hx : a.eval x = vx) (hi : a.eval ix = vi) (h : (Instr.indexAt t vx vi).run P w = .ok p w) : (execOp a.eval op).run P w = .ok (.value p) w := by
  unfold execOp
  simp only [ho, hx, hi, Sem.run_bind, Sem.run_pure, h, Result.andThen_ok]
def isBytes (xs : List Int) : Prop := ∀ x ∈ xs, 0 ≤ x ∧ x ≤ 255

section
variable {P : Program} {ops : Array Oper} {Q : Exit → Act → World → Prop} {S : World → Prop} {fuel : Nat} {listed : Array Bool} {a : Act} {w : World}
/-- Two operations may come up: whichever does. -/
theorem reg_two (i j : Nat) (hr : (Region.ready .any ops listed == [i, j]) = true)
    (h1 : wpOp P ops Q i (fun a' w' => S w' ∧ wpAnyH P .any ops Q S fuel (listed.setIfInBounds i true) a' w') a w) (h2 : wpOp P ops Q j (fun a' w' => S w' ∧ wpAnyH P .any ops Q S fuel (listed.setIfInBounds j true) a' w') a w) : wpAnyH P .any ops Q S (fuel + 1) listed a w :=
  wpAnyH_two (beq_iff_eq.1 hr) h1 h2
/-- One of them gives a value, and may change the world. -/
theorem op_value (i : Nat) (v : Value) (d : Option Tmp) (w' : World) {K : Act → World → Prop} (hi : (ops[i]?.isSome && Region.wanted (opAt ops i) (yielded ops a.tmps)) = true) (hd : (opAt ops i).dst = d)
    (hrun : (execOp a.eval (opAt ops i)).run P w = .ok (.value v) w') (h : K (a.put d v) w') : wpOp P ops Q i K a w := by
  simp only [Bool.and_eq_true] at hi
  subst hd
  exact wpOp_value v (get_opAt hi.1) hi.2 hrun h
/-- One of them is a call by a contract. -/
theorem op_call (i : Nat) (f : FuncId) (args : Array Value) (d : Option Tmp) (R : Ending → World → Prop) {K : Act → World → Prop} (hi : (ops[i]?.isSome && Region.wanted (opAt ops i) (yielded ops a.tmps)) = true) (hd : (opAt ops i).dst = d)
    (hrun : (execOp a.eval (opAt ops i)).run P w = .ok (.enter f args) w) (hc : Calls P f args w R) (h : ∀ e w', R e w' → ∃ v, e = .returned v ∧ K (a.put d v) w') : wpOp P ops Q i K a w := by
  simp only [Bool.and_eq_true] at hi
  subst hd
  exact wpOp_callE f args R (get_opAt hi.1) hi.2 hrun hc h
/-- The same place, spelled otherwise. -/
theorem reg_cast {l' : Array Bool} {a' : Act} (hl : listed = l') (ha : a = a') (h : wpAnyH P .any ops Q S fuel l' a' w) : wpAnyH P .any ops Q S fuel listed a w := by
  subst hl; subst ha; exact h
end
end Go.Proofs.YtoeilaedpibboaaDoor
