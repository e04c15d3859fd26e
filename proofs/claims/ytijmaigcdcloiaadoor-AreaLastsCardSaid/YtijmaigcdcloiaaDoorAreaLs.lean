/- Where the loop of AreaLasts stands, and how each call leaves it. -/
import Derived.Test.YtijmaigcdcloiaaDoorAreaGr
namespace Go.Proofs.YtijmaigcdcloiaaDoor
open Go Go.RowKit
set_option maxRecDepth 100000

theorem cntK_ge (all : List (List Int)) : ∀ k, k ≤ cntK all k
  | 0 => Nat.le_refl _
  | k + 1 => by have := cntK_ge all k; have := needN_pos (rowAt all k).length; rw [cntK]; omega
theorem Inv.up {sz first g nr tp m0 sure c c' : Nat} {seen dur : List Int} {pend : List Wr} {all : List (List Int)} (h : Inv sz first g seen dur pend all nr tp m0 sure c) (hc : c ≤ c') (h2 : c' ≤ 255) : Inv sz first g seen dur pend all nr tp m0 sure c' :=
  { h with toBase := h.toBase.mono hc h2, gc := Nat.le_trans h.gc hc }
/-- A row of the call's own gets one more. -/
theorem Rws.snoc {M : List Nat} {w w5 w6 : World} {lg lcap n g cap : Nat} {zss : List (List Int)} {cv : Value} {rec : List Int} (h : Rws (lg :: M) w (.slice (some ⟨lg, 0, none⟩) n lcap) zss) (hlM : lg ∉ M) (hM : ∀ k ∈ M, k < w.heap.size) (hb : Below w.heap.size w w5) (hn : zss.length = n)
    (hc : ∀ G : List Nat, (∀ k ∈ G, k ∈ lg :: M ∨ w5.heap.size ≤ k) → BytesOff G w5 cv rec) (hnl : NilOk cv) {vs : List Value} (hvs : w.ownsRow 0 33 1 (.slice (some ⟨lg, 0, none⟩) n lcap) n vs) (hbs : ∀ (i : Nat) (v : Value) (zs : List Int), vs[i]? = some v → zss[i]? = some zs → BytesOff (lg :: M) w v zs ∧ NilOk v)
    (ho : w6.ownsRow 0 33 1 (.slice (some ⟨g, 0, none⟩) (n + 1) cap) (n + 1) (vs ++ [cv])) (hg : w5.grownBy w6 (some lg)) (hat : lg = g ∨ g = w5.heap.size) :
    Rws (g :: M) w6 (.slice (some ⟨g, 0, none⟩) (n + 1) cap) (zss ++ [rec]) ∧ Step [lg] w [g] w6 ∧ g ∉ M := by
  have hlt : lg < w.heap.size := (hvs.lt lg rfl).2
  have hgM : g ∉ M := by
    rcases hat with e | e
    · rw [← e]; exact hlM
    · intro hc; have := hM g hc; have := hb.size; omega
  have hst0 : Step [lg] w [g] w6 := by
    refine ⟨hg.os.trans hb.os, hg.tape.trans hb.tape, hg.output.trans hb.output, Nat.le_trans hb.size hg.size, fun k hk hkF => ?_, fun k hk => ?_⟩
    · rw [hg.block k (Nat.lt_of_lt_of_le hk hb.size) (fun e => hkF (by cases e; simp)), hb.block k hk]
    · obtain rfl : k = g := by simpa using hk
      rcases hat with e | e
      · exact .inl (by simp [e])
      · exact .inr (by have := hb.size; omega)
  have hst : Step (lg :: M) w (g :: M) w6 := hst0.right (F := M)
  have hcv : BytesOff (g :: M) w6 cv rec := by
    have s56 : Step (lg :: g :: M) w5 (lg :: g :: M) w6 := ⟨hg.os, hg.tape, hg.output, hg.size, fun k hk hkF => hg.block k hk (fun e => hkF (by cases e; simp)), fun k hk => .inl hk⟩
    refine ((hc (lg :: g :: M) (fun k hk => ?_)).step s56).sub (fun k hk => List.mem_cons_of_mem _ hk)
    rcases List.mem_cons.1 hk with rfl | h1
    · exact .inl (by simp)
    · rcases List.mem_cons.1 h1 with rfl | h2
      · rcases hat with e | e
        · exact .inl (by simp [e])
        · exact .inr (by omega)
      · exact .inl (List.mem_cons_of_mem _ h2)
  refine ⟨⟨vs ++ [cv], by rw [List.length_append, hn]; exact ho, fun i v zs hv hz => ?_⟩, hst0, hgM⟩
  have hvl : vs.length = n := by have := hvs.1; omega
  by_cases e : i < n
  · rw [List.getElem?_append_left (by omega)] at hv hz
    obtain ⟨h1, h2⟩ := hbs i v zs hv hz
    exact ⟨h1.step hst, h2⟩
  · have hi : i = n := by
      have := (List.getElem?_eq_some_iff.1 hz).1
      simp at this
      omega
    subst hi
    rw [List.getElem?_append_right (by omega), hn, Nat.sub_self] at hz
    rw [List.getElem?_append_right (by omega), hvl, Nat.sub_self] at hv
    obtain rfl := Option.some.inj hz
    obtain rfl := Option.some.inj hv
    exact ⟨hcv, hnl⟩
/-- Where the loop stands, with all that lies in memory. -/
structure Lx (w0 : World) (B d sz i ab lg lcap nr sure : Nat) (wr : World) (A F : List Nat) (first g : Nat) (seen dur : List Int) (pend : List Wr) (left : Int) (all : List (List Int)) (tp m0 : Nat) (stuck : Bool) : Prop where
  ar : Ar wr A ([lg] ++ F) ab d first (sz / 2) g (1 + cntK all nr) stuck (all.take nr)
  dk : Dk wr F d sz seen dur pend left
  iv : Inv sz first g seen dur pend all nr tp m0 sure (i + 1)
  st : stuck = false → nr = all.length
  lf : left ≤ 9223372036854775807
  pl : pend.length ≤ 100 * i
  rw' : Rws (lg :: (A ++ F)) wr (.slice (some ⟨lg, 0, none⟩) nr lcap) (all.take nr)
  lo : lg ∉ A ++ F
  ge : ∀ k ∈ lg :: (A ++ F), B ≤ k
  be : Below B w0 wr
  s0 : B ≤ w0.heap.size
def Ls (w0 : World) (B d sz i ab lg lcap nr sure : Nat) (wr : World) : Prop :=
  ∃ A F first g seen dur pend left all tp m0 stuck, Lx w0 B d sz i ab lg lcap nr sure wr A F first g seen dur pend left all tp m0 stuck
section
variable {w0 wr w' : World} {B d sz i ab lg lcap nr sure : Nat} {A F : List Nat} {first g : Nat} {seen dur : List Int} {pend : List Wr} {left : Int} {all : List (List Int)} {tp m0 : Nat} {stuck : Bool}
theorem Lx.sb (h : Lx w0 B d sz i ab lg lcap nr sure wr A F first g seen dur pend left all tp m0 stuck) : B ≤ wr.heap.size := Nat.le_trans h.s0 h.be.size
theorem Lx.nl (h : Lx w0 B d sz i ab lg lcap nr sure wr A F first g seen dur pend left all tp m0 stuck) : (all.take nr).length = nr := by rw [List.length_take]; have := h.iv.nrl; omega
theorem Lx.n20 (h : Lx w0 B d sz i ab lg lcap nr sure wr A F first g seen dur pend left all tp m0 stuck) : nr + 1 ≤ sz / 2 := by have := cntK_ge all nr; have := h.iv.t1; have := h.iv.th; omega
theorem Lx.m (h : Lx w0 B d sz i ab lg lcap nr sure wr A F first g seen dur pend left all tp m0 stuck) : ∀ k ∈ A ++ F, k < wr.heap.size := fun k hk => by
  rcases List.mem_append.1 hk with h1 | h1
  · exact h.ar.lt k h1
  · exact h.dk.lt k h1
theorem Lx.lgl (h : Lx w0 B d sz i ab lg lcap nr sure wr A F first g seen dur pend left all tp m0 stuck) : lg < wr.heap.size ∧ nr ≤ lcap := by
  obtain ⟨vs, ⟨_, h1⟩, _⟩ := h.rw'
  rcases h1 with ⟨h2, _⟩ | ⟨g', cap, cur, h2, _, h3, h4, _⟩
  · cases h2
  · obtain ⟨e1, e2, e3⟩ := Value.slice.inj h2
    have e4 : lg = g' := by simpa using e1
    subst e4
    subst e3
    refine ⟨(Array.getElem?_eq_some_iff.1 h3).1, ?_⟩
    rw [← e2] at h4
    exact h4
theorem Lx.kw (h : Lx w0 B d sz i ab lg lcap nr sure wr A F first g seen dur pend left all tp m0 stuck) (hK : KW w0) (hKB : 0 < B) : KW wr ∧ 0 ∉ F :=
  ⟨hK.below h.be hKB, fun hc => by have := h.ge _ (List.mem_cons_of_mem _ (List.mem_append_right _ hc)); omega⟩
/-- The records are the list. -/
theorem Lx.parts (h : Lx w0 B d sz i ab lg lcap nr sure wr A F first g seen dur pend left all tp m0 stuck) : PartsOff (A ++ F) wr (.slice (some ⟨lg, 0, none⟩) nr lcap) (all.take nr) :=
  h.rw'.parts (fun zs hz => by have := h.iv.sh zs (List.mem_of_mem_take hz); omega) (by rw [h.nl]; have := h.n20; have := h.iv.big; omega) (fun k hk => List.mem_cons_of_mem _ hk) (fun g hg => by
    obtain rfl : lg = g := by simpa [Value.ownBlock] using hg
    exact h.lo)
theorem Lx.below (h : Lx w0 B d sz i ab lg lcap nr sure wr A F first g seen dur pend left all tp m0 stuck) (hb : Below wr.heap.size wr w') : Lx w0 B d sz i ab lg lcap nr sure w' A F first g seen dur pend left all tp m0 stuck :=
  ⟨h.ar.below hb, h.dk.below hb, h.iv, h.st, h.lf, h.pl, h.rw'.step (Step.of_below hb (Nat.le_refl _)) ⟨[], [], Step.of_below hb (Nat.le_refl _), fun g _ => by simp⟩, h.lo, h.ge, h.be.trans (hb.mono h.sb), h.s0⟩
theorem Lx.next (h : Lx w0 B d sz i ab lg lcap nr sure wr A F first g seen dur pend left all tp m0 stuck) (hi : i + 2 ≤ 255) : Lx w0 B d sz (i + 1) ab lg lcap nr sure wr A F first g seen dur pend left all tp m0 stuck :=
  { h with iv := h.iv.up (by omega) (by omega), pl := by have := h.pl; omega }
theorem Lx.ls (h : Lx w0 B d sz i ab lg lcap nr sure wr A F first g seen dur pend left all tp m0 stuck) : Ls w0 B d sz i ab lg lcap nr sure wr := ⟨A, F, first, g, seen, dur, pend, left, all, tp, m0, stuck, h⟩
/-- The disk and the area change, and the list stays. -/
theorem Lx.move (h : Lx w0 B d sz i ab lg lcap nr sure wr A F first g seen dur pend left all tp m0 stuck) {A' F' : List Nat} {ab' : Nat} (hs : Step (A ++ F) wr (A' ++ F') w') :
    Rws (lg :: (A' ++ F')) w' (.slice (some ⟨lg, 0, none⟩) nr lcap) (all.take nr) ∧ lg ∉ A' ++ F' ∧ (∀ k ∈ lg :: (A' ++ F'), B ≤ k) ∧ Below B w0 w' ∧ ab' = ab' := by
  have hs2 : Step (lg :: (A ++ F)) wr (lg :: (A' ++ F')) w' := hs.left (A := [lg])
  refine ⟨h.rw'.step hs2 ⟨_, _, hs, fun g hg => ?_⟩, hs.off h.lgl.1 h.lo, hs2.ge h.ge h.sb, hs2.blow h.ge h.sb h.be, rfl⟩
  obtain rfl : lg = g := by simpa [Value.ownBlock] using hg
  exact h.lo
theorem Lx.tpe (h : Lx w0 B d sz i ab lg lcap nr sure wr A F first g seen dur pend left all tp m0 false) : nr = all.length ∧ tp = cntK all all.length := by
  have h1 := h.st rfl
  have h2 := h.iv.t1
  have h3 := h.iv.tn
  rw [h1] at h2
  exact ⟨h1, by omega⟩
/-- Blocks that are new. -/
theorem Ar.more {w : World} {A E F : List Nat} {ab d first half gen next : Nat} {stuck : Bool} {recs : List (List Int)} (h : Ar w A F ab d first half gen next stuck recs) (hE : ∀ k ∈ E, w.heap.size ≤ k) : Ar w A (E ++ F) ab d first half gen next stuck recs := by
  obtain ⟨rv, rfl, hx⟩ := h
  obtain ⟨vs, h1, h2⟩ := hx.hr
  refine ⟨rv, rfl, ⟨hx.hb, ⟨vs, h1, fun i v zs hv hz => ⟨(h2 i v zs hv hz).1.more (fun k hk => ?_), (h2 i v zs hv hz).2⟩⟩, hx.n1, fun k hk hc => ?_, hx.short⟩⟩
  · rcases List.mem_append.1 hk with h | h
    · exact .inl (List.mem_append_left _ h)
    · rcases List.mem_append.1 h with h | h
      · exact .inr (hE k h)
      · exact .inl (List.mem_append_right _ h)
  · rcases List.mem_append.1 hc with h | h
    · have := hE k h; have := hx.rlt k hk; omega
    · exact hx.n2 k hk h
theorem take_all {all : List (List Int)} {nr : Nat} (h : nr = all.length) : all.take nr = all := List.take_of_length_le (by omega)
/-- Add was stopped by the disk. -/
theorem Lx.stopped (h : Lx w0 B d sz i ab lg lcap nr sure wr A F first g seen dur pend left all tp m0 false) (hi : i + 2 ≤ 255) {rec : List Int} {F' : List Nat} {j : Nat} (hl : rec.length ≤ 2000) (hb : isBytes rec) (hfit : needN rec.length ≤ sz / 2 - (1 + cntK all nr)) (hj : j < needN rec.length)
    (ha : Ar w' A ([lg] ++ F') ab d first (sz / 2) g (1 + cntK all nr) true (all.take nr)) {left' : Int} (hd : Dk w' F' d sz (putsK seen (first + (1 + cntK all nr)) (packF g (1 + cntK all nr) rec) j) dur (pend ++ wrsAt (first + (1 + cntK all nr)) (packF g (1 + cntK all nr) rec) j) left') (hlf : left' ≤ 9223372036854775807) (hs : Step (A ++ F) wr (A ++ F') w') :
    Ls w0 B d sz (i + 1) ab lg lcap nr sure w' := by
  obtain ⟨e1, e2⟩ := h.tpe
  obtain ⟨m1, m2, m3, m4, -⟩ := h.move (ab' := ab) hs
  subst e1
  subst e2
  have hth := h.iv.th
  have hin := (h.iv.add (rec := rec) (j := j) (nr' := all.length) hl hb (by omega) (by omega) (.inr ⟨hj, rfl⟩)).up (Nat.le_succ (i + 1)) hi
  have et : (all ++ [rec]).take all.length = all.take all.length := by rw [List.take_left, List.take_length]
  have ec : cntK (all ++ [rec]) all.length = cntK all all.length := cntK_app all [rec] _ (Nat.le_refl _)
  have hk := needN_le rec.length hl
  exact ⟨A, F', first, g, _, dur, _, left', all ++ [rec], _, m0, true, ⟨by rw [et, ec]; exact ha, hd, hin, (fun h => by cases h), hlf, by rw [List.length_append, wrsAt_length]; have := h.pl; omega, by rw [et]; exact m1, m2, m3, m4, h.s0⟩⟩
/-- Add took the record, and it goes onto the list. -/
theorem Lx.added (h : Lx w0 B d sz i ab lg lcap nr sure wr A F first g seen dur pend left all tp m0 false) (hi : i + 2 ≤ 255) {rec : List Int} {A' F' : List Nat} {w6 : World} {lg' lcap' : Nat} (hl : rec.length ≤ 2000) (hb : isBytes rec) (hfit : needN rec.length ≤ sz / 2 - (1 + cntK all nr))
    (ha : Ar w' A' ([lg] ++ F') ab d first (sz / 2) g (1 + cntK all nr + needN rec.length) false (all.take nr ++ [rec])) {left' : Int} (hd : Dk w' F' d sz (putsK seen (first + (1 + cntK all nr)) (packF g (1 + cntK all nr) rec) (needN rec.length)) dur (pend ++ wrsAt (first + (1 + cntK all nr)) (packF g (1 + cntK all nr) rec) (needN rec.length)) left') (hlf : left' ≤ 9223372036854775807) (hs : Step (A ++ F) wr (A' ++ F') w')
    (hr : Rws (lg' :: (A' ++ F')) w6 (.slice (some ⟨lg', 0, none⟩) (nr + 1) lcap') (all.take nr ++ [rec])) (hst2 : Step [lg] w' [lg'] w6) (hl' : lg' ∉ A' ++ F') : Ls w0 B d sz (i + 1) ab lg' lcap' (nr + 1) sure w6 := by
  obtain ⟨e1, e2⟩ := h.tpe
  obtain ⟨m1, m2, m3, m4, -⟩ := h.move (ab' := ab) hs
  subst e1
  subst e2
  have hth := h.iv.th
  have hin := (h.iv.add (rec := rec) (j := needN rec.length) (nr' := all.length + 1) hl hb (Nat.le_refl _) (by omega) (.inl ⟨rfl, rfl⟩)).up (Nat.le_succ (i + 1)) hi
  have et : (all ++ [rec]).take (all.length + 1) = all.take all.length ++ [rec] := by rw [List.take_length, List.take_of_length_le (by simp)]
  have rl : rowAt (all ++ [rec]) all.length = rec := by unfold rowAt; simp
  have ec : 1 + cntK (all ++ [rec]) (all.length + 1) = 1 + cntK all all.length + needN rec.length := by rw [cntK, cntK_app all [rec] _ (Nat.le_refl _), rl]; omega
  have hk := needN_le rec.length hl
  have hsb : B ≤ w'.heap.size := Nat.le_trans h.sb hs.size
  have hst : Step (lg :: (A' ++ F')) w' (lg' :: (A' ++ F')) w6 := hst2.right (F := A' ++ F')
  have off : ∀ k ∈ A' ++ F', k ∉ [lg] := fun k hk hc => by
    obtain rfl : k = lg := by simpa using hc
    exact m2 hk
  refine ⟨A', F', first, g, _, dur, _, left', all ++ [rec], _, m0, false, ⟨?_, hd.step hst2 (fun k hk => off k (List.mem_append_right _ hk)), hin, fun _ => by simp, hlf, by rw [List.length_append, wrsAt_length]; have := h.pl; omega, by rw [et]; exact hr, hl', hst.ge m3 hsb, hst.blow m3 hsb m4, h.s0⟩⟩
  rw [et, ec]
  exact ha.disk (hst2.right (F := F'))
/-- What was added is flushed. -/
theorem Lx.flushed (h : Lx w0 B d sz i ab lg lcap nr sure wr A F first g seen dur pend left all tp m0 stuck) (hi : i + 2 ≤ 255) {F' : List Nat} (hd : Dk w' F' d sz seen (applyK dur pend pend.length) [] left) (hs : Step F wr F' w') : Ls w0 B d sz (i + 1) ab lg lcap nr nr w' := by
  have hs2 : Step (A ++ F) wr (A ++ F') w' := hs.left
  obtain ⟨m1, m2, m3, m4, -⟩ := h.move (ab' := ab) hs2
  rw [← h.iv.eq] at hd
  exact ⟨A, F', first, g, seen, seen, [], left, all, tp, m0, stuck, ⟨h.ar.disk (hs.left (A := [lg])), hd, h.iv.flushed.up (Nat.le_succ _) hi, h.st, h.lf, by simp, m1, m2, m3, m4, h.s0⟩⟩
theorem Lx.limited (h : Lx w0 B d sz i ab lg lcap nr sure wr A F first g seen dur pend left all tp m0 stuck) (hi : i + 2 ≤ 255) {F' : List Nat} {l : Int} (hl : l ≤ 9223372036854775807) (hd : Dk w' F' d sz seen dur pend l) (hs : Step F wr F' w') : Ls w0 B d sz (i + 1) ab lg lcap nr sure w' := by
  have hs2 : Step (A ++ F) wr (A ++ F') w' := hs.left
  obtain ⟨m1, m2, m3, m4, -⟩ := h.move (ab' := ab) hs2
  exact ⟨A, F', first, g, seen, dur, pend, l, all, tp, m0, stuck, ⟨h.ar.disk (hs.left (A := [lg])), hd, h.iv.up (Nat.le_succ _) hi, h.st, hl, by have := h.pl; omega, m1, m2, m3, m4, h.s0⟩⟩
/-- A new area was begun, with the rows that lie at lg'. -/
theorem begun_ls {zss : List (List Int)} {lg' lcap' ab' f c : Nat} {F' A' : List Nat} {wb : World} {dur' seen' : List Int} {pend' : List Wr} (hB : Base sz seen dur pend c) (hc : c ≤ i + 1) (hi : i + 2 ≤ 255) (hf : f = 0 ∨ f = sz / 2) (sh : ∀ zs ∈ zss, zs.length ≤ 2000) (by' : ∀ zs ∈ zss, isBytes zs) {g' T : Nat} (hg : (highK seen sz).toNat + 1 = g') (hT : cntK zss zss.length = T) (hfit : T ≤ sz / 2 - 1)
    (hn : zss.length = nr) (hs1 : seen' = putB (putsK seen (f + 1) (rowsK g' 1 zss zss.length) T) f (headL g' T)) (hd1 : dur' = applyK (applyK dur (pend ++ wrsAt (f + 1) (rowsK g' 1 zss zss.length) T) (pend ++ wrsAt (f + 1) (rowsK g' 1 zss zss.length) T).length) [(f, headL g' T)] 1) (hp1 : pend' = [])
    (ha : Ar w' A' ([lg'] ++ F') ab' d f (sz / 2) g' (1 + T) false zss) (hd : Dk w' F' d sz seen' dur' pend' left) (hlf : left ≤ 9223372036854775807) (hs : Step F wb (A' ++ F') w')
    (hr : Rws (lg' :: F) wb (.slice (some ⟨lg', 0, none⟩) nr lcap') zss) (hl : lg' ∉ F) (hge : ∀ k ∈ lg' :: F, B ≤ k) (hsb : B ≤ wb.heap.size) (hbe : Below B w0 wb) (hs0 : B ≤ w0.heap.size) : Ls w0 B d sz (i + 1) ab' lg' lcap' nr nr w' := by
  have hlt : lg' < wb.heap.size := by
    obtain ⟨vs, h1, _⟩ := hr
    exact (h1.lt lg' rfl).2
  have hs2 : Step (lg' :: F) wb (lg' :: (A' ++ F')) w' := hs.left (A := [lg'])
  have hin := (inv_begun hB (by omega) hf sh by' hg hT hfit).up (c' := i + 2) (by omega) hi
  rw [← hs1, ← hd1] at hin
  subst hp1
  have et : zss.take nr = zss := List.take_of_length_le (by omega)
  have ec : cntK zss nr = T := by rw [← hn]; exact hT
  rw [hn] at hin
  refine ⟨A', F', f, g', seen', dur', [], left, zss, T, nr, false, ⟨by rw [et, ec]; exact ha, hd, hin, fun _ => hn.symm, hlf, by simp, ?_, hs.off hlt hl, hs2.ge hge hsb, hs2.blow hge hsb hbe, hs0⟩⟩
  rw [et]
  refine hr.step hs2 ⟨_, _, hs, fun g hg => ?_⟩
  obtain rfl : lg' = g := by simpa [Value.ownBlock] using hg
  exact hl
/-- A Begin that was refused leaves the old area. -/
theorem Lx.failed (h : Lx w0 B d sz i ab lg lcap nr sure wr A F first g seen dur pend left all tp m0 stuck) (hi : i + 2 ≤ 255) {R : List Int} {k j : Nat} (hR : R.length = 64 * k) (hj : j ≤ k) (hk : 1 + k ≤ sz / 2) (hk2 : k ≤ 100) (hb : isBytes R) (hsm : ∀ q, q < j → Small (i + 2) (getB R q)) {F' : List Nat} {dur' : List Int} {pend' : List Wr} {left' : Int} (hlf : left' ≤ 9223372036854775807)
    (hd : Dk w' F' d sz (putsK seen (sz / 2 - first + 1) R j) dur' pend' left') (hs : Step F wr F' w')
    (hcase : (dur' = dur ∧ pend' = pend ++ wrsAt (sz / 2 - first + 1) R j) ∨ (pend' = [] ∧ dur' = applyK dur (pend ++ wrsAt (sz / 2 - first + 1) R j) (pend ++ wrsAt (sz / 2 - first + 1) R j).length)) : Ls w0 B d sz (i + 1) ab lg lcap nr sure w' := by
  have hs2 : Step (A ++ F) wr (A ++ F') w' := hs.left
  obtain ⟨m1, m2, m3, m4, -⟩ := h.move (ab' := ab) hs2
  have hin := h.iv.other hR hj hk hb hsm hi
  rcases hcase with ⟨rfl, rfl⟩ | ⟨rfl, e⟩
  · exact ⟨A, F', first, g, _, dur', _, left', all, tp, m0, stuck, ⟨h.ar.disk (hs.left (A := [lg])), hd, hin, h.st, hlf, by rw [List.length_append, wrsAt_length]; have := h.pl; omega, m1, m2, m3, m4, h.s0⟩⟩
  · rw [← hin.eq] at e
    subst e
    exact ⟨A, F', first, g, _, _, [], left', all, tp, m0, stuck, ⟨h.ar.disk (hs.left (A := [lg])), hd, hin.flushed.sure' h.iv.m0s h.iv.sr, h.st, hlf, by simp, m1, m2, m3, m4, h.s0⟩⟩
end
end Go.Proofs.YtijmaigcdcloiaaDoor
