/- The program's disk and the reference's beside it. -/
import Derived.Test.YtpbilngjjlabiaaDskRn
import Derived.Test.YtpbilngjjlabiaaDskLn
namespace Go.Proofs.Ytpbilngjjlabiaa
open Go Go.RowKit
set_option maxRecDepth 100000

/-- Both disks lie in memory that is new since w0, and have no block in common. -/
structure Pq (F G : List Nat) (d r sz : Nat) (seen dur : List Int) (pend : List Wr) (l : Int) (S : List Int) (P : List Wr) (l' : Int) (w0 w : World) : Prop where
  dk : Dk w F d sz seen dur pend l
  rk : Rk w G r sz S P l'
  st : Step [] w0 (F ++ G) w
  off : ∀ k ∈ F, k ∉ G
section
variable {F G : List Nat} {d r sz : Nat} {seen dur : List Int} {pend : List Wr} {l : Int} {S : List Int} {P : List Wr} {l' : Int} {w0 w : World}
theorem Pq.below {w' : World} (h : Pq F G d r sz seen dur pend l S P l' w0 w) (hb : Below w.heap.size w w') : Pq F G d r sz seen dur pend l S P l' w0 w' :=
  ⟨h.dk.below hb, h.rk.below hb, h.st.trans (Step.of_below hb (Nat.le_refl _)), h.off⟩
theorem Pq.stepD {F' : List Nat} {seen' dur' : List Int} {pend' : List Wr} {left' : Int} {w' : World} (h : Pq F G d r sz seen dur pend l S P l' w0 w) (hd : Dk w' F' d sz seen' dur' pend' left') (hs : Step F w F' w') : Pq F' G d r sz seen' dur' pend' left' S P l' w0 w' := by
  refine ⟨hd, h.rk.step hs (fun k hk hF => h.off k hF hk), h.st.trans ⟨hs.os, hs.tape, hs.output, hs.size, fun k hk hF => hs.block k hk (fun hc => hF (List.mem_append.2 (.inl hc))), fun k hk => ?_⟩, fun k hk hG => ?_⟩
  · rcases List.mem_append.1 hk with h1 | h1
    · rcases hs.fresh k h1 with h2 | h2
      · exact .inl (List.mem_append.2 (.inl h2))
      · exact .inr h2
    · exact .inl (List.mem_append.2 (.inr h1))
  · rcases hs.fresh k hk with h2 | h2
    · exact h.off k h2 hG
    · have := h.rk.lt k hG
      omega
theorem Pq.stepR {G' : List Nat} {S' : List Int} {P' : List Wr} {left' : Int} {w' : World} (h : Pq F G d r sz seen dur pend l S P l' w0 w) (hr : Rk w' G' r sz S' P' left') (hs : Step G w G' w') : Pq F G' d r sz seen dur pend l S' P' left' w0 w' := by
  refine ⟨h.dk.step hs (fun k hk hG => h.off k hk hG), hr, h.st.trans ⟨hs.os, hs.tape, hs.output, hs.size, fun k hk hF => hs.block k hk (fun hc => hF (List.mem_append.2 (.inr hc))), fun k hk => ?_⟩, fun k hk hG => ?_⟩
  · rcases List.mem_append.1 hk with h1 | h1
    · exact .inl (List.mem_append.2 (.inl h1))
    · rcases hs.fresh k h1 with h2 | h2
      · exact .inl (List.mem_append.2 (.inr h2))
      · exact .inr h2
  · rcases hs.fresh k hG with h2 | h2
    · exact h.off k hk h2
    · have := h.dk.lt k hk
      omega
/-- What was there before both is in neither. -/
theorem Pq.offD (h : Pq F G d r sz seen dur pend l S P l' w0 w) {v : Value} {zs : List Int} (hv : BytesIn w0 v zs) : BytesOff F w v zs :=
  hv.off h.st.below (fun k hk => by
    rcases h.st.fresh k (List.mem_append.2 (.inl hk)) with h1 | h1
    · simp at h1
    · exact h1)
theorem Pq.offR (h : Pq F G d r sz seen dur pend l S P l' w0 w) {v : Value} {zs : List Int} (hv : BytesIn w0 v zs) : BytesOff G w v zs :=
  hv.off h.st.below (fun k hk => by
    rcases h.st.fresh k (List.mem_append.2 (.inr hk)) with h1 | h1
    · simp at h1
    · exact h1)
end
theorem pq_new {w w1 w2 : World} {F G : List Nat} {d r sz : Nat} (hd : Dk w1 F d sz (zeros (64 * sz)) (zeros (64 * sz)) [] (-1)) (hs : Step [] w F w1) (hr : Rk w2 G r sz (zeros (64 * sz)) [] (-1)) (hs2 : Step [] w1 G w2) :
    Pq F G d r sz (zeros (64 * sz)) (zeros (64 * sz)) [] (-1) (zeros (64 * sz)) [] (-1) w w2 := by
  refine ⟨hd.step hs2 (fun k _ => by simp), hr, ⟨hs2.os.trans hs.os, hs2.tape.trans hs.tape, hs2.output.trans hs.output, Nat.le_trans hs.size hs2.size, fun k hk _ => (hs2.block k (Nat.lt_of_lt_of_le hk hs.size) (by simp)).trans (hs.block k hk (by simp)), fun k hk => ?_⟩, fun k hk hG => ?_⟩
  · rcases List.mem_append.1 hk with h1 | h1
    · exact hs.fresh k h1
    · rcases hs2.fresh k h1 with h2 | h2
      · exact .inl h2
      · exact .inr (Nat.le_trans hs.size h2)
  · rcases hs2.fresh k hG with h2 | h2
    · simp at h2
    · have := hd.lt k hk
      omega
/-- The pair as the statement holds it: what is read is the image. -/
def Pr (F G : List Nat) (d r sz : Nat) (S : List Int) (P : List Wr) (l : Int) (w0 w : World) : Prop :=
  Pq F G d r sz (applyK S P P.length) S P l S P (if l < -1 then -1 else l) w0 w
theorem left_same (l : Int) : (if (if 0 < l then l - 1 else l) < -1 then -1 else (if 0 < l then l - 1 else l)) = (if 0 < (if l < -1 then -1 else l) then (if l < -1 then -1 else l) - 1 else (if l < -1 then -1 else l)) := by
  by_cases h1 : 0 < l
  · rw [if_pos h1, if_neg (show ¬ l < -1 by omega), if_pos h1, if_neg (by omega)]
  · by_cases h2 : l < -1
    · rw [if_neg h1, if_pos h2, if_neg (by decide)]
    · rw [if_neg h1, if_neg h2, if_neg h1]
end Go.Proofs.Ytpbilngjjlabiaa
