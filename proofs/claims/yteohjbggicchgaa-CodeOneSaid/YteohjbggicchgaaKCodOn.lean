/- Law 10's CodeOne. -/
import Derived.Test.YteohjbggicchgaaKCodAl
import Derived.Test.YteohjbggicchgaaKCodTt
namespace Go.Proofs.Yteohjbggicchgaa
open Go Go.RowKit
set_option maxRecDepth 100000
-- what was read is near
theorem headP_near {k : Int} {l l2 : List Int} {n : Int} {s : List UInt8} {c a : Nat} (hb : isB l) (h : headP k l = some ((n, s, c, a), l2)) : (k = 1 → n ≤ 1099511627776) ∧ isB l2 := by
 have h1 := (headP_sound hb h).1.2
 have h2 : isB l2 := by
  have h3 : isB ((k % 256) :: l) := fun y hy => (List.mem_cons.1 hy).elim (fun e => by rw [e]; omega) (hb y)
  rw [h1] at h3
  exact h3.right
 refine ⟨fun hk => ?_, h2⟩
 subst hk
 unfold headP at h
 rw [if_pos rfl] at h
 cases hn : numP l with
 | none => rw [hn] at h; cases h
 | some y =>
  obtain ⟨m, r⟩ := y
  rw [hn] at h
  simp only [Option.some.injEq, Prod.mk.injEq] at h
  rw [← h.1.1]
  exact (numP_sound hb hn).1.2
theorem nearTs_of : ∀ {ts : List Tm}, (∀ t ∈ ts, nearT t) → nearTs ts
 | [], _ => by rw [nearTs]; trivial
 | t :: ts, h => by
  rw [nearTs]
  exact ⟨h t (by simp), nearTs_of fun x hx => h x (by simp [hx])⟩
theorem nodeP_near : ∀ (f : Nat) (s : Nat × List Int) (t : Tm) (s' : Nat × List Int), isB s.2 → nodeP f s = some (t, s') → nearT t
 | 0, _, _, _, _, h => by simp [nodeP] at h
 | f + 1, (0, l), t, s', _, h => by rw [nodeP_zero] at h; cases h
 | f + 1, (m + 1, []), t, s', _, h => by rw [nodeP_nil] at h; cases h
 | f + 1, (m + 1, b :: l), t, s', hb, h => by
  rw [nodeP_at] at h
  cases h1 : headP b l with
  | none => rw [h1] at h; cases h
  | some y =>
   obtain ⟨⟨n, s, c, a⟩, l2⟩ := y
   rw [h1] at h
   dsimp only at h
   obtain ⟨g1, g2⟩ := headP_near hb.tail h1
   cases h2 : timesP levelP c l2 with
   | none => rw [h2] at h; cases h
   | some y =>
    obtain ⟨ls, l3⟩ := y
    rw [h2] at h
    dsimp only at h
    obtain ⟨e3, -, -⟩ := timesP_sound (p := levelP) (π := fun s => s) (enc := levelB) (G := fun _ => True) (fun s x s' hs hp => ⟨(levelP_sound hs hp).1, trivial⟩) g2 h2
    have g3 : isB l3 := by rw [e3] at g2; exact g2.right
    cases h3 : timesP (nodeP f) a (m, l3) with
    | none => rw [h3] at h; cases h
    | some y =>
     obtain ⟨ts, s4⟩ := y
     rw [h3] at h
     simp only [Option.some.injEq, Prod.mk.injEq] at h
     obtain ⟨rfl, -⟩ := h
     obtain ⟨-, -, g4⟩ := timesP_sound (p := nodeP f) (π := fun s => s.2) (enc := termB) (G := nearT) (fun s x s' hs hp => ⟨(nodeP_sound f s x s' hs hp).1, nodeP_near f s x s' hs hp⟩) (s := (m, l3)) g3 h3
     rw [nearT]
     exact ⟨g1, nearTs_of g4⟩
theorem termP_near {l r : List Int} {t : Tm} (hb : isB l) (h : termP l = some (t, r)) : nearT t := by
 unfold termP at h
 cases hn : nodeP 3000 (3000, l) with
 | none => rw [hn] at h; cases h
 | some y =>
  obtain ⟨t', s⟩ := y
  rw [hn] at h
  simp only [Option.some.injEq, Prod.mk.injEq] at h
  obtain ⟨rfl, -⟩ := h
  exact nodeP_near _ _ _ _ hb hn
/-- A term that was taken, written again. -/
theorem takeT_sound {l r : List Int} {t : Tm} (hb : isB l) (hl : l.length ≤ 1000000000) (h : takeT l = some (t, r)) : l = termB t ++ r ∧ termOk t = true ∧ GoodT t := by
 unfold takeT at h
 cases hn : termP l with
 | none => rw [hn] at h; cases h
 | some y =>
  obtain ⟨t', r'⟩ := y
  rw [hn] at h
  dsimp only at h
  split at h
  ·rename_i hR
   simp only [Option.some.injEq, Prod.mk.injEq] at h
   obtain ⟨rfl, rfl⟩ := h
   refine ⟨(termP_sound hb hn).1, ?_, (termP_good hb hl hn).1⟩
   unfold termOk
   rw [hR, (far_near t').2 (termP_near hb hn)]
   rfl
  ·cases h
theorem good_10 {t : Tm} (h : Ok10 t ∧ nodesT t ≤ 3000) (hr : ReadT t) : GoodT t := GoodT.of hr (by have := termB_len t h.1 hr.lv; omega)
theorem decl_good {d : Dc} (hr : ReadD d) (hf : formB d = true) : GoodD d := by
 have F := form_iff.1 hf
 have K := form_ok F
 refine ⟨by have := K.name; omega, good_10 K.ty hr.ty, ?_, ?_⟩
 ·by_cases hv : valD d
  ·exact good_10 (K.val hv) hr.val
  ·have := F.val
   rw [if_neg hv] at this
   rw [this]
   exact nT_good
 ·by_cases h4 : d.kind = 4
  ·exact ⟨by have := K.len h4; omega, fun c hc => ⟨by have := (K.ctors h4 c hc).1; omega, good_10 (K.ctors h4 c hc).2 (hr.ctors c hc)⟩⟩
  ·have := F.rest
   rw [if_neg h4] at this
   rw [this.2]
   exact GoodC.nil
theorem rows_same {m1 : Nat} {w : World} {v1 v2 : Value} {zs : List Int} (h1 : RowB m1 w v1 zs) (h2 : BytesIn w v2 zs) (hl : zs.length ≤ 4611686018427387904) : Calls Try.prog 16 #[v1, v2] w fun e w' => e = .returned (.bool true) ∧ Below w.heap.size w w' := by
 refine (sameb_walk v1 v2 zs zs w h1.in h2 hl).mono ?_
 rintro e w' ⟨rfl, n, rfl⟩
 rw [decide_eq_true rfl]
 exact ⟨rfl, below_drewN _ _⟩
end Go.Proofs.Yteohjbggicchgaa
