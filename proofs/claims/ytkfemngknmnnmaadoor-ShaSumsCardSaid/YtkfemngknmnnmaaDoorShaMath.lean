/- The hash of a message as a state, a buffer and a count, and what taking some bytes in does to them: plain lemmas on lists of integers; nothing about the program. -/
import Derived.Test.YtkfemngknmnnmaaDoorShaSpec2
namespace Go.Proofs.YtkfemngknmnnmaaDoor
open Go
namespace Sha

/-- The first state. -/
def iv : List Int := [1779033703, 3144134277, 1013904242, 2773480762, 1359893119, 2600822924, 528734635, 1541459225]
/-- The state behind the first k blocks of a message. -/
def stAfter (msg : List Int) : Nat → List Int
  | 0 => iv
  | k + 1 => compress (stAfter msg k) ((msg.drop (64 * k)).take 64)
def stateOf (msg : List Int) : List Int := stAfter msg (msg.length / 64)
/-- The digest of a message. -/
def sum (msg : List Int) : List Int := digest (stateOf (msg ++ pad msg.length))
theorem compress_length (st bs : List Int) : (compress st bs).length = st.length := by rw [compress, addTo_length]
theorem stAfter_length (msg : List Int) (k : Nat) : (stAfter msg k).length = 8 := by
  induction k with
  | zero => rfl
  | succ k ih => rw [stAfter, compress_length, ih]
theorem stateOf_length (msg : List Int) : (stateOf msg).length = 8 := stAfter_length _ _
theorem sum_length (msg : List Int) : (sum msg).length = 32 := digestTo_length _ _
theorem pad_length (n : Nat) : (pad n).length = padSize n := padTo_length _ _
theorem stAfter_append (msg zs : List Int) (k : Nat) (h : 64 * k ≤ msg.length) : stAfter (msg ++ zs) k = stAfter msg k := by
  induction k with
  | zero => rfl
  | succ k ih =>
    rw [stAfter, stAfter, ih (by omega), List.drop_append_of_le_length (by omega), List.take_append_of_le_length (by rw [List.length_drop]; omega)]
end Sha

/-- What take leaves of a hash. -/
def takenN (n len : Nat) : Nat := min (64 - n % 64) len
def takenBuf (buf : List Int) (n : Nat) (zs : List Int) : List Int := Sha.over buf (n % 64) (zs.take (64 - n % 64))
def takenSt (st buf : List Int) (n : Nat) (zs : List Int) : List Int := if n % 64 + takenN n zs.length = 64 then Sha.compress st (takenBuf buf n zs) else st

theorem taken_spec (msg zs buf : List Int) (hbuf : buf.length = 64) (h : buf.take (msg.length % 64) = msg.drop (64 * (msg.length / 64))) :
    takenSt (Sha.stateOf msg) buf msg.length zs = Sha.stateOf (msg ++ zs.take (64 - msg.length % 64)) ∧
    (takenBuf buf msg.length zs).take ((msg ++ zs.take (64 - msg.length % 64)).length % 64) = (msg ++ zs.take (64 - msg.length % 64)).drop (64 * ((msg ++ zs.take (64 - msg.length % 64)).length / 64)) ∧
    (takenBuf buf msg.length zs).length = 64 ∧ (msg ++ zs.take (64 - msg.length % 64)).length = msg.length + takenN msg.length zs.length := by
  obtain ⟨cs, hcs⟩ : ∃ cs, cs = zs.take (64 - msg.length % 64) := ⟨_, rfl⟩
  have hcl : cs.length = takenN msg.length zs.length := by rw [hcs, List.length_take, takenN]
  have hc64 : msg.length % 64 + cs.length ≤ 64 := by rw [hcl, takenN]; omega
  have hb : takenBuf buf msg.length zs = buf.take (msg.length % 64) ++ cs ++ buf.drop (msg.length % 64 + cs.length) := by rw [takenBuf, Sha.over, hcs]
  have hd : (msg ++ cs).drop (64 * (msg.length / 64)) = buf.take (msg.length % 64) ++ cs := by
    rw [List.drop_append_of_le_length (by omega), h]
  have htl : (buf.take (msg.length % 64)).length = msg.length % 64 := by rw [List.length_take]; omega
  rw [← hcs]
  have hlen : (msg ++ cs).length = msg.length + cs.length := List.length_append
  refine ⟨?_, ?_, ?_, by rw [hlen, hcl]⟩
  · unfold takenSt
    rw [← hcl]
    split
    · rename_i hf
      have e : (msg ++ cs).length / 64 = msg.length / 64 + 1 := by rw [hlen]; omega
      have e2 : (buf.take (msg.length % 64) ++ cs).take 64 = buf.take (msg.length % 64) ++ cs := List.take_of_length_le (by rw [List.length_append, htl]; omega)
      rw [Sha.stateOf, Sha.stateOf, e, Sha.stAfter, Sha.stAfter_append _ _ _ (by omega), hd, hb]
      rw [show buf.drop (msg.length % 64 + cs.length) = [] from List.drop_eq_nil_of_le (by omega), List.append_nil, e2]
    · rename_i hf
      have e : (msg ++ cs).length / 64 = msg.length / 64 := by rw [hlen]; omega
      rw [Sha.stateOf, Sha.stateOf, e, Sha.stAfter_append _ _ _ (by omega)]
  · by_cases hf : msg.length % 64 + cs.length = 64
    · have e1 : (msg ++ cs).length % 64 = 0 := by rw [hlen]; omega
      rw [e1, List.take_zero, List.drop_eq_nil_of_le (by rw [hlen]; omega)]
    · have e1 : (msg ++ cs).length % 64 = msg.length % 64 + cs.length := by rw [hlen]; omega
      have e2 : (msg ++ cs).length / 64 = msg.length / 64 := by rw [hlen]; omega
      rw [e1, e2, hd, hb, List.take_append_of_le_length (by rw [List.length_append, htl]; omega), List.take_of_length_le (by rw [List.length_append, htl]; omega)]
  · rw [hb]; simp; omega
end Go.Proofs.YtkfemngknmnnmaaDoor
