/- What package sha computes, as plain functions of integers, in the forms in which the walk meets them: nothing is proved here about the program. -/
import Derived.WalkKit
namespace Go.Proofs.YtoeilaedpibboaaDoor.Sha
open Go

/-- A word turned right by s places. -/
def rot (x : Int) (s : Nat) : Int := bits BinOp.or IntKind.u32 (x * 2 ^ (32 - s) % 4294967296) (x / 2 ^ s)
def ssig0 (x : Int) : Int := bits BinOp.xor IntKind.u32 (bits BinOp.xor IntKind.u32 (rot x 7) (rot x 18)) (x / 8)
def ssig1 (x : Int) : Int := bits BinOp.xor IntKind.u32 (bits BinOp.xor IntKind.u32 (rot x 17) (rot x 19)) (x / 1024)
def bsig0 (x : Int) : Int := bits BinOp.xor IntKind.u32 (bits BinOp.xor IntKind.u32 (rot x 2) (rot x 13)) (rot x 22)
def bsig1 (x : Int) : Int := bits BinOp.xor IntKind.u32 (bits BinOp.xor IntKind.u32 (rot x 6) (rot x 11)) (rot x 25)
def cho (x y z : Int) : Int := bits BinOp.xor IntKind.u32 (bits BinOp.and IntKind.u32 x y) (bits BinOp.and IntKind.u32 (bits BinOp.xor IntKind.u32 IntKind.u32.max x) z)
def maj (x y z : Int) : Int := bits BinOp.xor IntKind.u32 (bits BinOp.xor IntKind.u32 (bits BinOp.and IntKind.u32 x y) (bits BinOp.and IntKind.u32 x z)) (bits BinOp.and IntKind.u32 y z)

/-- A word of four bytes, the greatest first. -/
def word4 (a b c d : Int) : Int := bits BinOp.or IntKind.u32 (bits BinOp.or IntKind.u32 (bits BinOp.or IntKind.u32 (IntKind.u32.wrap (IntKind.u32.wrap a * 16777216)) (IntKind.u32.wrap (IntKind.u32.wrap b * 65536))) (IntKind.u32.wrap (IntKind.u32.wrap c * 256))) (IntKind.u32.wrap d)
def wordAt (bs : List Int) (t : Nat) : Int := word4 (bs[4 * t]?.getD 0) (bs[4 * t + 1]?.getD 0) (bs[4 * t + 2]?.getD 0) (bs[4 * t + 3]?.getD 0)
def firstWords (bs : List Int) : Nat → List Int
  | 0 => []
  | n + 1 => firstWords bs n ++ [wordAt bs n]
def nextWord (a b c d : Int) : Int := (a + ssig0 b + c + ssig1 d) % 4294967296
/-- The first 16 + n words of a block's schedule. -/
def sched (bs : List Int) : Nat → List Int
  | 0 => firstWords bs 16
  | n + 1 => sched bs n ++ [nextWord ((sched bs n)[n]?.getD 0) ((sched bs n)[n + 1]?.getD 0) ((sched bs n)[n + 9]?.getD 0) ((sched bs n)[n + 14]?.getD 0)]
theorem firstWords_length (bs : List Int) (n : Nat) : (firstWords bs n).length = n := by
  induction n with
  | zero => rfl
  | succ n ih => simp [firstWords, ih]
theorem sched_length (bs : List Int) (n : Nat) : (sched bs n).length = 16 + n := by
  induction n with
  | zero => exact firstWords_length bs 16
  | succ n ih => simp [sched, ih]; omega
theorem set_zeros (l : List Int) (m : Nat) (v : Int) : (l ++ List.replicate (m + 1) 0).set l.length v = (l ++ [v]) ++ List.replicate m 0 := by
  rw [List.set_append_right _ _ (Nat.le_refl _)]
  simp [List.replicate_succ]

/-- The round constants. -/
def K : List Int := [1116352408, 1899447441, 3049323471, 3921009573, 961987163, 1508970993, 2453635748, 2870763221, 3624381080, 310598401, 607225278, 1426881987, 1925078388, 2162078206, 2614888103, 3248222580, 3835390401, 4022224774, 264347078, 604807628, 770255983, 1249150122, 1555081692, 1996064986, 2554220882, 2821834349, 2952996808, 3210313671, 3336571891, 3584528711, 113926993, 338241895, 666307205, 773529912, 1294757372, 1396182291, 1695183700, 1986661051, 2177026350, 2456956037, 2730485921, 2820302411, 3259730800, 3345764771, 3516065817, 3600352804, 4094571909, 275423344, 430227734, 506948616, 659060556, 883997877, 958139571, 1322822218, 1537002063, 1747873779, 1955562222, 2024104815, 2227730452, 2361852424, 2428436474, 2756734187, 3204031479, 3329325298]

/-- The eight words while a block is compressed. -/
structure St where
  a : Int
  b : Int
  c : Int
  d : Int
  e : Int
  f : Int
  g : Int
  h : Int
def t1 (s : St) (k w : Int) : Int := (s.h + bsig1 s.e + cho s.e s.f s.g + k + w) % 4294967296
def t2 (s : St) : Int := (bsig0 s.a + maj s.a s.b s.c) % 4294967296
def step (s : St) (k w : Int) : St := ⟨(t1 s k w + t2 s) % 4294967296, s.a, s.b, s.c, (s.d + t1 s k w) % 4294967296, s.e, s.f, s.g⟩
def St.of (st : List Int) : St := ⟨st[0]?.getD 0, st[1]?.getD 0, st[2]?.getD 0, st[3]?.getD 0, st[4]?.getD 0, st[5]?.getD 0, st[6]?.getD 0, st[7]?.getD 0⟩
def St.list (s : St) : List Int := [s.a, s.b, s.c, s.d, s.e, s.f, s.g, s.h]
def steps (st bs : List Int) : Nat → St
  | 0 => St.of st
  | n + 1 => step (steps st bs n) (K[n]?.getD 0) ((sched bs 48)[n]?.getD 0)
def addTo (st : List Int) (l : List Int) : Nat → List Int
  | 0 => st
  | n + 1 => (addTo st l n).set n (((addTo st l n)[n]?.getD 0 + l[n]?.getD 0) % 4294967296)
/-- The state behind a block. -/
def compress (st bs : List Int) : List Int := addTo st (steps st bs 64).list 8
theorem addTo_length (st l : List Int) (n : Nat) : (addTo st l n).length = st.length := by
  induction n with
  | zero => rfl
  | succ n ih => simp [addTo, ih]

theorem neg_mask (n : Nat) (h1 : 1 ≤ n) (h2 : n ≤ 31) : bits BinOp.and IntKind.u64 (IntKind.u64.wrap (-(n : Int))) 31 = ((32 - n : Nat) : Int) := by
  have h : ∀ m : Fin 31, bits BinOp.and IntKind.u64 (IntKind.u64.wrap (-((m.val + 1 : Nat) : Int))) 31 = ((32 - (m.val + 1) : Nat) : Int) := by decide
  have := h ⟨n - 1, by omega⟩
  rwa [show n - 1 + 1 = n by omega] at this
end Go.Proofs.YtoeilaedpibboaaDoor.Sha
/- What package sha makes of a state, of bytes and of a length, as plain functions: the digest's bytes, the padding, the hash of bytes; nothing is proved here about the program. -/
namespace Go.Proofs.YtoeilaedpibboaaDoor.Sha
open Go

/-- A word's bytes, the greatest first, put in their places. -/
def putWord (ds : List Int) (k : Nat) (x : Int) : List Int :=
  (((ds.set (4 * k) (x / 16777216 % 256)).set (4 * k + 1) (x / 65536 % 256)).set (4 * k + 2) (x / 256 % 256)).set (4 * k + 3) (x % 256)
def digestTo (l : List Int) : Nat → List Int
  | 0 => List.replicate 32 0
  | n + 1 => putWord (digestTo l n) n (l[n]?.getD 0)
def digest (l : List Int) : List Int := digestTo l 8
theorem digestTo_length (l : List Int) (n : Nat) : (digestTo l n).length = 32 := by
  induction n with
  | zero => simp [digestTo]
  | succ n ih => simp [digestTo, putWord, ih]
/-- How many bytes stand behind n bytes. -/
def padSize (n : Nat) : Nat := if 64 - n % 64 < 9 then 128 - n % 64 else 64 - n % 64
def padTo (n : Nat) : Nat → List Int
  | 0 => (List.replicate (padSize n) 0).set 0 128
  | k + 1 => (padTo n k).set (padSize n - 1 - k) ((n : Int) * 8 / 2 ^ (8 * k) % 256)
/-- What stands behind n bytes. -/
def pad (n : Nat) : List Int := padTo n 8
theorem padSize_bounds (n : Nat) : 9 ≤ padSize n ∧ padSize n ≤ 72 := by unfold padSize; split <;> omega
theorem padTo_length (n k : Nat) : (padTo n k).length = padSize n := by
  induction k with
  | zero => simp [padTo]
  | succ k ih => simp [padTo, ih]
/-- Some bytes laid over others from a place on. -/
def over (buf : List Int) (r : Nat) (cs : List Int) : List Int := buf.take r ++ cs ++ buf.drop (r + cs.length)
theorem over_length {buf cs : List Int} {r : Nat} (h : r + cs.length ≤ buf.length) : (over buf r cs).length = buf.length := by
  simp [over]; omega
end Go.Proofs.YtoeilaedpibboaaDoor.Sha
/- The hash of a message as a state, a buffer and a count, and what taking some bytes in does to them: plain lemmas on lists of integers; nothing about the program. -/
namespace Go.Proofs.YtoeilaedpibboaaDoor
open Go
namespace Sha

/-- The first state. -/
def iv : List Int := [1779033703, 3144134277, 1013904242, 2773480762, 1359893119, 2600822924, 528734635, 1541459225]
/-- The state behind the first k blocks of a message. -/
def stAfter (msg : List Int) : Nat → List Int
  | 0 => iv
  | k + 1 => compress (stAfter msg k) ((msg.drop (64 * k)).take 64)
def stateOf (msg : List Int) : List Int := stAfter msg (msg.length / 64)
/-- The digest of a message. -/
def sum (msg : List Int) : List Int := digest (stateOf (msg ++ pad msg.length))
theorem compress_length (st bs : List Int) : (compress st bs).length = st.length := by rw [compress, addTo_length]
theorem stAfter_length (msg : List Int) (k : Nat) : (stAfter msg k).length = 8 := by
  induction k with
  | zero => rfl
  | succ k ih => rw [stAfter, compress_length, ih]
theorem stateOf_length (msg : List Int) : (stateOf msg).length = 8 := stAfter_length _ _
theorem sum_length (msg : List Int) : (sum msg).length = 32 := digestTo_length _ _
theorem pad_length (n : Nat) : (pad n).length = padSize n := padTo_length _ _
theorem stAfter_append (msg zs : List Int) (k : Nat) (h : 64 * k ≤ msg.length) : stAfter (msg ++ zs) k = stAfter msg k := by
  induction k with
  | zero => rfl
  | succ k ih =>
    rw [stAfter, stAfter, ih (by omega), List.drop_append_of_le_length (by omega), List.take_append_of_le_length (by rw [List.length_drop]; omega)]
end Sha

/-- What take leaves of a hash. -/
def takenN (n len : Nat) : Nat := min (64 - n % 64) len
def takenBuf (buf : List Int) (n : Nat) (zs : List Int) : List Int := Sha.over buf (n % 64) (zs.take (64 - n % 64))
def takenSt (st buf : List Int) (n : Nat) (zs : List Int) : List Int := if n % 64 + takenN n zs.length = 64 then Sha.compress st (takenBuf buf n zs) else st

theorem taken_spec (msg zs buf : List Int) (hbuf : buf.length = 64) (h : buf.take (msg.length % 64) = msg.drop (64 * (msg.length / 64))) :
    takenSt (Sha.stateOf msg) buf msg.length zs = Sha.stateOf (msg ++ zs.take (64 - msg.length % 64)) ∧
    (takenBuf buf msg.length zs).take ((msg ++ zs.take (64 - msg.length % 64)).length % 64) = (msg ++ zs.take (64 - msg.length % 64)).drop (64 * ((msg ++ zs.take (64 - msg.length % 64)).length / 64)) ∧
    (takenBuf buf msg.length zs).length = 64 ∧ (msg ++ zs.take (64 - msg.length % 64)).length = msg.length + takenN msg.length zs.length := by
  obtain ⟨cs, hcs⟩ : ∃ cs, cs = zs.take (64 - msg.length % 64) := ⟨_, rfl⟩
  have hcl : cs.length = takenN msg.length zs.length := by rw [hcs, List.length_take, takenN]
  have hc64 : msg.length % 64 + cs.length ≤ 64 := by rw [hcl, takenN]; omega
  have hb : takenBuf buf msg.length zs = buf.take (msg.length % 64) ++ cs ++ buf.drop (msg.length % 64 + cs.length) := by rw [takenBuf, Sha.over, hcs]
  have hd : (msg ++ cs).drop (64 * (msg.length / 64)) = buf.take (msg.length % 64) ++ cs := by
    rw [List.drop_append_of_le_length (by omega), h]
  have htl : (buf.take (msg.length % 64)).length = msg.length % 64 := by rw [List.length_take]; omega
  rw [← hcs]
  have hlen : (msg ++ cs).length = msg.length + cs.length := List.length_append
  refine ⟨?_, ?_, ?_, by rw [hlen, hcl]⟩
  · unfold takenSt
    rw [← hcl]
    split
    · rename_i hf
      have e : (msg ++ cs).length / 64 = msg.length / 64 + 1 := by rw [hlen]; omega
      have e2 : (buf.take (msg.length % 64) ++ cs).take 64 = buf.take (msg.length % 64) ++ cs := List.take_of_length_le (by rw [List.length_append, htl]; omega)
      rw [Sha.stateOf, Sha.stateOf, e, Sha.stAfter, Sha.stAfter_append _ _ _ (by omega), hd, hb]
      rw [show buf.drop (msg.length % 64 + cs.length) = [] from List.drop_eq_nil_of_le (by omega), List.append_nil, e2]
    · rename_i hf
      have e : (msg ++ cs).length / 64 = msg.length / 64 := by rw [hlen]; omega
      rw [Sha.stateOf, Sha.stateOf, e, Sha.stAfter_append _ _ _ (by omega)]
  · by_cases hf : msg.length % 64 + cs.length = 64
    · have e1 : (msg ++ cs).length % 64 = 0 := by rw [hlen]; omega
      rw [e1, List.take_zero, List.drop_eq_nil_of_le (by rw [hlen]; omega)]
    · have e1 : (msg ++ cs).length % 64 = msg.length % 64 + cs.length := by rw [hlen]; omega
      have e2 : (msg ++ cs).length / 64 = msg.length / 64 := by rw [hlen]; omega
      rw [e1, e2, hd, hb, List.take_append_of_le_length (by rw [List.length_append, htl]; omega), List.take_of_length_le (by rw [List.length_append, htl]; omega)]
  · rw [hb]; simp; omega
end Go.Proofs.YtoeilaedpibboaaDoor
/- What the padding is, place by place: plain lemmas; nothing about the program. -/
namespace Go.Proofs.YtoeilaedpibboaaDoor
open Go
namespace Sha
theorem padSize_mod (n : Nat) : (n + padSize n) % 64 = 0 := by unfold padSize; split <;> omega
/-- The padding's bytes while its length is filled in. -/
theorem padTo_get (n k i : Nat) (hk : k ≤ 8) (hi : i < padSize n) : (padTo n k)[i]? = some (if i = 0 then 128 else if padSize n - k ≤ i then (n : Int) * 8 / 2 ^ (8 * (padSize n - 1 - i)) % 256 else 0) := by
  have hb := padSize_bounds n
  induction k with
  | zero =>
    rw [padTo, List.getElem?_set]
    by_cases h0 : 0 = i
    · subst h0; simp; omega
    · rw [if_neg h0, List.getElem?_replicate, if_pos hi, if_neg (by omega), if_neg (by omega)]
  | succ k ih =>
    rw [padTo, List.getElem?_set, padTo_length]
    by_cases h0 : padSize n - 1 - k = i
    · rw [if_pos h0, if_pos (by omega), if_neg (by omega), if_pos (by omega), show padSize n - 1 - i = k by omega]
    · rw [if_neg h0, ih (by omega)]
      by_cases h1 : i = 0
      · rw [if_pos h1, if_pos h1]
      · rw [if_neg h1, if_neg h1]
        by_cases h2 : padSize n - k ≤ i
        · rw [if_pos h2, if_pos (by omega)]
        · rw [if_neg h2, if_neg (by omega)]
theorem pad_get (n i : Nat) (hi : i < padSize n) : (pad n)[i]? = some (if i = 0 then 128 else if padSize n - 8 ≤ i then (n : Int) * 8 / 2 ^ (8 * (padSize n - 1 - i)) % 256 else 0) := padTo_get n 8 i (by omega) hi
theorem pad_zero (n : Nat) : (pad n)[0]? = some 128 := by
  have hb := padSize_bounds n
  rw [pad_get n 0 (by omega)]; rfl
/-- What ShaPads has gathered of the length when it comes to a place. -/
def gathered (n z k : Nat) : Int := (n : Int) * 8 / 2 ^ (8 * (z - max k (z - 8)))
theorem gathered_early (n z k : Nat) (hn : n ≤ 1125899906842624) (hz : 9 ≤ z) (hk : k ≤ z - 8) : gathered n z k = 0 := by
  unfold gathered
  rw [show z - max k (z - 8) = 8 by omega]
  apply Int.ediv_eq_zero_of_lt (by omega)
  have : (2 : Int) ^ (8 * 8) = 18446744073709551616 := by decide
  omega
theorem gathered_last (n z : Nat) : gathered n z z = (n : Int) * 8 := by
  unfold gathered
  rw [show z - max z (z - 8) = 0 by omega]; simp
theorem gathered_bound (n z k : Nat) (hn : n ≤ 1125899906842624) : 0 ≤ gathered n z k ∧ gathered n z k ≤ 9007199254740992 := by
  unfold gathered
  have h1 : (0 : Int) < 2 ^ (8 * (z - max k (z - 8))) := Int.pow_pos (by decide)
  refine ⟨Int.ediv_nonneg (by omega) (by omega), ?_⟩
  have := Int.ediv_le_self (2 ^ (8 * (z - max k (z - 8)))) (show (0 : Int) ≤ (n : Int) * 8 by omega)
  omega
theorem gathered_step (n z k : Nat) (h1 : z - 8 ≤ k) (h2 : k < z) : gathered n z k * 256 + (n : Int) * 8 / 2 ^ (8 * (z - 1 - k)) % 256 = gathered n z (k + 1) := by
  unfold gathered
  rw [show z - max k (z - 8) = z - 1 - k + 1 by omega, show z - max (k + 1) (z - 8) = z - 1 - k by omega, show 8 * (z - 1 - k + 1) = 8 * (z - 1 - k) + 8 by omega, Int.pow_add, ← Int.ediv_ediv_of_nonneg (Int.le_of_lt (Int.pow_pos (by decide)))]
  have : (2 : Int) ^ 8 = 256 := by decide
  rw [this]
  omega
theorem i64_or_join (g x : Int) (h0 : 0 ≤ g) (h1 : g ≤ 9007199254740992) (h2 : 0 ≤ x) (h3 : x < 256) : bits BinOp.or IntKind.i64 (g * 256) x = g * 256 + x := by
  obtain ⟨a, rfl⟩ := Int.eq_ofNat_of_zero_le h0
  obtain ⟨b, rfl⟩ := Int.eq_ofNat_of_zero_le h2
  show IntKind.i64.wrap ((BitVec.ofInt 64 (((a * 256 : Nat)) : Int) ||| BitVec.ofInt 64 (b : Int)).toNat : Int) = _
  rw [BitVec.toNat_or, ofInt_u64 (a * 256) (by omega), ofInt_u64 b (by omega), nat_join 8 (a * 256) b (by omega) (by omega)]
  exact IntWalk.i64_in _ (by omega)
end Sha
end Go.Proofs.YtoeilaedpibboaaDoor
/- What a digest is, byte by byte: plain lemmas; nothing about the program. -/
namespace Go.Proofs.YtoeilaedpibboaaDoor
open Go
namespace Sha
theorem putWord_get (ds : List Int) (k : Nat) (x : Int) (hk : 4 * k + 3 < ds.length) (i : Nat) :
    (putWord ds k x)[i]? = if i / 4 = k then some (x / 2 ^ (24 - 8 * (i % 4)) % 256) else ds[i]? := by
  unfold putWord
  simp only [List.getElem?_set, List.length_set]
  by_cases h : i / 4 = k
  · rw [if_pos h]
    rcases (by omega : i % 4 = 0 ∨ i % 4 = 1 ∨ i % 4 = 2 ∨ i % 4 = 3) with r | r | r | r
    · have e : i = 4 * k := by omega
      subst e
      rw [r, if_neg (by omega), if_neg (by omega), if_neg (by omega), if_pos rfl, if_pos (by omega)]
      simp
    · have e : i = 4 * k + 1 := by omega
      subst e
      rw [r, if_neg (by omega), if_neg (by omega), if_pos rfl, if_pos (by omega)]
      simp
    · have e : i = 4 * k + 2 := by omega
      subst e
      rw [r, if_neg (by omega), if_pos rfl, if_pos (by omega)]
      simp
    · have e : i = 4 * k + 3 := by omega
      subst e
      rw [r, if_pos rfl, if_pos (by omega)]
      simp
  · rw [if_neg h, if_neg (by omega), if_neg (by omega), if_neg (by omega), if_neg (by omega)]
theorem digestTo_get (l : List Int) (k i : Nat) (hk : k ≤ 8) (hi : i < 4 * k) : (digestTo l k)[i]? = some (l[i / 4]?.getD 0 / 2 ^ (24 - 8 * (i % 4)) % 256) := by
  induction k with
  | zero => omega
  | succ k ih =>
    rw [digestTo, putWord_get _ _ _ (by rw [digestTo_length]; omega)]
    by_cases h : i / 4 = k
    · rw [if_pos h, h]
    · rw [if_neg h]; exact ih (by omega) (by omega)
theorem digest_get (l : List Int) (i : Nat) (hi : i < 32) : (digest l)[i]? = some (l[i / 4]?.getD 0 / 2 ^ (24 - 8 * (i % 4)) % 256) := digestTo_get l 8 i (by omega) (by omega)
theorem i64_and3 (i : Nat) (hi : i < 32) : bits BinOp.and IntKind.i64 (i : Int) 3 = ((i % 4 : Nat) : Int) := by
  have h : ∀ m : Fin 32, bits BinOp.and IntKind.i64 ((m.val : Nat) : Int) 3 = ((m.val % 4 : Nat) : Int) := by decide
  exact h ⟨i, hi⟩
end Sha
end Go.Proofs.YtoeilaedpibboaaDoor
/- The digests of the empty message, of abc and of abcd begin with the bytes that the standard's examples give: reckoned by the kernel. -/
namespace Go.Proofs.YtoeilaedpibboaaDoor
open Go
set_option maxRecDepth 100000
theorem k_abc : (Sha.sum [97, 98, 99]).take 4 = [186, 120, 22, 191] := by decide +kernel
theorem k_nil : (Sha.sum []).take 4 = [227, 176, 196, 66] := by decide +kernel
theorem k_abcd : (Sha.sum [97, 98, 99, 100]).take 1 = [136] := by decide +kernel
end Go.Proofs.YtoeilaedpibboaaDoor
/- Bitwise identities on words: the reference's forms of choose, majority and of a turned word are the program's. Plain lemmas; nothing about the program. -/
namespace Go.Proofs.YtoeilaedpibboaaDoor.Sha
open Go

theorem wrap32 (n : Nat) (h : n < 4294967296) : IntKind.u32.wrap (n : Int) = (n : Int) := by
  simp [IntKind.wrap, IntKind.bits, IntKind.signed]; omega
theorem bits_and32 (a b : Int) : bits BinOp.and IntKind.u32 a b = ((BitVec.ofInt 32 a &&& BitVec.ofInt 32 b).toNat : Int) := wrap32 _ (BitVec.isLt _)
theorem bits_or32 (a b : Int) : bits BinOp.or IntKind.u32 a b = ((BitVec.ofInt 32 a ||| BitVec.ofInt 32 b).toNat : Int) := wrap32 _ (BitVec.isLt _)
theorem bits_xor32 (a b : Int) : bits BinOp.xor IntKind.u32 a b = ((BitVec.ofInt 32 a ^^^ BitVec.ofInt 32 b).toNat : Int) := wrap32 _ (BitVec.isLt _)
theorem ofInt_back (x : BitVec 32) : BitVec.ofInt 32 (x.toNat : Int) = x := by simp
theorem or_comm32 (a b : Int) : bits BinOp.or IntKind.u32 a b = bits BinOp.or IntKind.u32 b a := by
  rw [bits_or32, bits_or32, BitVec.or_comm]
theorem max32 : BitVec.ofInt 32 IntKind.u32.max = BitVec.allOnes 32 := by decide
theorem cho_or (x y z : Int) : bits BinOp.or IntKind.u32 (bits BinOp.and IntKind.u32 x y) (bits BinOp.and IntKind.u32 (bits BinOp.xor IntKind.u32 IntKind.u32.max x) z) = cho x y z := by
  unfold cho
  simp only [bits_and32, bits_or32, bits_xor32, ofInt_back, max32]
  congr 2
  ext i hi
  simp only [BitVec.getElem_and, BitVec.getElem_or, BitVec.getElem_xor, BitVec.getElem_allOnes]
  cases (BitVec.ofInt 32 x)[i] <;> cases (BitVec.ofInt 32 y)[i] <;> cases (BitVec.ofInt 32 z)[i] <;> rfl
theorem maj_or (x y z : Int) : bits BinOp.or IntKind.u32 (bits BinOp.or IntKind.u32 (bits BinOp.and IntKind.u32 x y) (bits BinOp.and IntKind.u32 x z)) (bits BinOp.and IntKind.u32 y z) = maj x y z := by
  unfold maj
  simp only [bits_and32, bits_or32, bits_xor32, ofInt_back]
  congr 2
  ext i hi
  simp
  cases (BitVec.ofInt 32 x)[i] <;> cases (BitVec.ofInt 32 y)[i] <;> cases (BitVec.ofInt 32 z)[i] <;> rfl
theorem rot_turn (x : Int) (n : Nat) : bits BinOp.or IntKind.u32 (x / 2 ^ n) (x * 2 ^ (32 - n) % 4294967296) = rot x n := or_comm32 _ _
end Go.Proofs.YtoeilaedpibboaaDoor.Sha
