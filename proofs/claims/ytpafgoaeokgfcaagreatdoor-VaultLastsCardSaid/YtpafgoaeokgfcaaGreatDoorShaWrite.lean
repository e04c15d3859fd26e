/- A hash in memory, and what Write does to it: the bytes of all parts are taken in; nothing else that was there changes. -/
import Derived.Test.YtpafgoaeokgfcaaGreatDoorShaTake
namespace Go.Proofs.YtpafgoaeokgfcaaGreatDoor
open Go.RowKit
set_option maxRecDepth 100000

/-- Block b holds a hash that has taken in just the bytes of msg. -/
def HashIs (w : World) (b : Nat) (msg : List Int) : Prop := ∃ buf, buf.length = 64 ∧ buf.take (msg.length % 64) = msg.drop (64 * (msg.length / 64)) ∧ Blk w b 143 (hcells (Sha.stateOf msg) buf msg.length)
theorem HashIs.lt {w : World} {b : Nat} {msg : List Int} (h : HashIs w b msg) : b < w.heap.size := by
  obtain ⟨_, _, _, h⟩ := h; exact h.lt
theorem HashIs.below {B : Nat} {w w' : World} {b : Nat} {msg : List Int} (h : HashIs w b msg) (hb : Below B w w') (hB : b < B) : HashIs w' b msg := by
  obtain ⟨buf, h1, h2, h3⟩ := h; exact ⟨buf, h1, h2, h3.below hb hB⟩
theorem HashIs.upd {b' : Nat} {w w' : World} {b : Nat} {msg : List Int} (h : HashIs w b msg) (hu : Upd b' w w') (hne : b ≠ b') : HashIs w' b msg := by
  obtain ⟨buf, h1, h2, h3⟩ := h; exact ⟨buf, h1, h2, hu.blk h3 hne⟩
theorem HashIs.alloc {w : World} {b : Nat} {msg : List Int} (h : HashIs w b msg) (o : Obj) : HashIs (w.alloc o) b msg := by
  obtain ⟨buf, h1, h2, h3⟩ := h; exact ⟨buf, h1, h2, h3.alloc o⟩

/-- The value v is a slice of just the bytes zs, none of them in block b. -/
def BytesAt (w : World) (b : Nat) (v : Value) (zs : List Int) : Prop :=
  ∃ a cap, v = .slice a zs.length cap ∧ zs.length ≤ cap ∧ (0 < zs.length → ∃ pb po, a = some ⟨pb, po, none⟩ ∧ pb ≠ b ∧ pb < w.heap.size ∧ w.rangeAt pb po (ints .u8 zs))
theorem rangeAt_upd {b : Nat} {w w' : World} (hu : Upd b w w') {pb po : Nat} {cs : List Value} (h : w.rangeAt pb po cs) (hlt : pb < w.heap.size) (hne : pb ≠ b) : w'.rangeAt pb po cs := fun j v hv => by
  rw [hu.cell (p := ⟨pb, po + j, none⟩) hlt hne]; exact h j v hv
theorem BytesAt.upd {w w' : World} {b : Nat} {v : Value} {zs : List Int} (h : BytesAt w b v zs) (hu : Upd b w w') : BytesAt w' b v zs := by
  obtain ⟨a, cap, h1, h2, h3⟩ := h
  refine ⟨a, cap, h1, h2, fun hp => ?_⟩
  obtain ⟨pb, po, h4, h5, h6, h7⟩ := h3 hp
  exact ⟨pb, po, h4, h5, Nat.lt_of_lt_of_le h6 hu.size, rangeAt_upd hu h7 h6 h5⟩
/-- The value v is a slice of slices of just the bytes zss, no cell of it in block b. -/
def PartsAt (w : World) (b : Nat) (v : Value) (zss : List (List Int)) : Prop :=
  ∃ (a : Option Addr) (cap : Nat) (ps : List Value), v = .slice a zss.length cap ∧ ps.length = zss.length ∧ zss.length ≤ 4611686018427387904 ∧ (0 < zss.length → ∃ qb qo, a = some ⟨qb, qo, none⟩ ∧ qb ≠ b ∧ qb < w.heap.size ∧ w.rangeAt qb qo ps) ∧
    ∀ (k : Nat) (v : Value) (zs : List Int), ps[k]? = some v → zss[k]? = some zs → BytesAt w b v zs

/-- take, by the bytes that a hash has taken in. -/
theorem take_hash (b : Nat) (msg : List Int) (pb po cap : Nat) (zs : List Int) (hpos : 0 < zs.length) (hN : msg.length + zs.length ≤ 1125899906842624)
    (w : World) (hb : HashIs w b msg) (hp : w.rangeAt pb po (ints .u8 zs)) (hK : KW w) (hKb : 0 ≠ b) :
    Calls Tryz.prog 94 #[.pointer (some ⟨b, 0, none⟩), .slice (some ⟨pb, po, none⟩) zs.length cap] w fun e w' => e = .returned (.int .i64 (takenN msg.length zs.length : Int)) ∧ HashIs w' b (msg ++ zs.take (takenN msg.length zs.length)) ∧ Upd b w w' := by
  obtain ⟨buf, h1, h2, h3⟩ := hb
  refine (take_walk b (Sha.stateOf msg) buf msg.length (Sha.stateOf_length _) h1 pb po zs.length cap zs rfl hpos hN w h3 hp hK hKb).mono ?_
  rintro e w' ⟨he, hbl, hu⟩
  obtain ⟨s1, s2, s3, s4⟩ := taken_spec msg zs buf h1 h2
  have et : zs.take (takenN msg.length zs.length) = zs.take (64 - msg.length % 64) := by
    rw [takenN]
    by_cases h : 64 - msg.length % 64 ≤ zs.length
    · rw [Nat.min_eq_left h]
    · rw [Nat.min_eq_right (by omega), List.take_length, List.take_of_length_le (by omega)]
  refine ⟨he, ?_, hu⟩
  rw [et]
  refine ⟨_, s3, s2, ?_⟩
  rw [s4, ← s1]
  exact hbl

/-- Where the rest of a slice begins. -/
def tailAddr (pb po cap c : Nat) : Option Addr := if cap = c then some ⟨pb, po, none⟩ else some ⟨pb, po + c, none⟩
theorem run_slice_tail (pb po len cap c : Nat) (h1 : c ≤ len) (w : World) : (Instr.slice 36 (.slice (some ⟨pb, po, none⟩) len cap) (some (.int .i64 (c : Int))) none none).run Tryz.prog w = .ok (.slice (tailAddr pb po cap c) (len - c) (cap - c)) w := by
  have hz : (sizeOf (Tryz.prog.elem 36)).run Tryz.prog w = .ok 1 w := by kernel_rfl
  have ht : Tryz.prog.underlying 36 = some (.slice (Tryz.prog.elem 36)) := by kernel_rfl
  rw [run_slice_l w 36 _ _ _ ht .i64 (c : Int) (by omega) (by omega), hz]
  simp only [Result.andThen_ok, sliced, tailAddr, Int.toNat_natCast]
  by_cases h : cap = c
  · rw [if_pos h, if_pos h]
  · rw [if_neg h, if_neg h]; simp [Addr.add_mid]
def lenOf : Value → Nat | .slice _ n _ => n | _ => 0
theorem bytes_tail {w : World} {b pb po cap c : Nat} {rest : List Int} (h2 : rest.length ≤ cap) (h4 : pb ≠ b) (h5 : pb < w.heap.size) (h6 : w.rangeAt pb po (ints .u8 rest)) (hc : c ≤ rest.length) : BytesAt w b (.slice (tailAddr pb po cap c) (rest.length - c) (cap - c)) (rest.drop c) := by
  refine ⟨tailAddr pb po cap c, cap - c, by rw [List.length_drop], by rw [List.length_drop]; omega, fun hp => ?_⟩
  rw [List.length_drop] at hp
  refine ⟨pb, po + c, by rw [tailAddr, if_neg (by omega)], h4, h5, fun j v hv => ?_⟩
  rw [show po + c + j = po + (c + j) by omega]
  refine h6 (c + j) v ?_
  simpa [ints, List.getElem?_drop] using hv
set_option maxHeartbeats 1000000 in
theorem write_walk (b : Nat) (msg : List Int) (zss : List (List Int)) (v : Value) (w : World) (hb : HashIs w b msg) (hv : PartsAt w b v zss) (hN : msg.length + zss.flatten.length ≤ 1125899906842624) (hK : KW w) (hKb : 0 ≠ b) :
    Calls Tryz.prog 88 #[.pointer (some ⟨b, 0, none⟩), v] w fun e w' => e = .returned (.tuple #[]) ∧ HashIs w' b (msg ++ zss.flatten) ∧ Upd b w w' := by
  obtain ⟨a, cap, ps, rfl, hps, hm, hq, hall⟩ := hv
  obtain ⟨m, em⟩ : ∃ m, m = zss.length := ⟨_, rfl⟩
  rw [← em] at hm hps hq ⊢
  have EM := Lib.hid em
  have HPS := Lib.hid hps
  have HQ := Lib.hid hq
  have HALL := Lib.hid hall
  have HB := Lib.hid hb
  have HK := Lib.hid hK
  have HN := Lib.hid hN
  clear em hps hq hall hb hK hN
  go_enter Tryz.func88, Tryz.ntmps88
  go_wp2
  go_loopw [8, 5] (fun i _ wr => ∃ k : Nat, k ≤ m ∧ i = .int .i64 k ∧ HashIs wr b (msg ++ (zss.take k).flatten) ∧ Upd b w wr) (fun i _ _ => m - (intOf i).toNat)
  case atStart => exact ⟨0, by omega, rfl, by simpa using HB.out, Upd.refl _ _⟩
  case round =>
    obtain ⟨k, hk, rfl, hh, hu⟩ := hrel
    by_cases hlt : k < m
    · obtain ⟨qb, qo, rfl, hq1, hq2, hq3⟩ := HQ.out (by omega)
      obtain ⟨v, hvk⟩ : ∃ v, ps[k]? = some v := ⟨_, List.getElem?_eq_getElem (by rw [HPS.out]; exact hlt)⟩
      obtain ⟨zs, hzk⟩ : ∃ zs, zss[k]? = some zs := ⟨_, List.getElem?_eq_getElem (by rw [← EM.out]; exact hlt)⟩
      have hby := (HALL.out k v zs hvk hzk).upd hu
      have cq := (rangeAt_upd hu hq3 hq2 hq1) k v hvk
      have q0 : (k : Int) < (m : Int) := by omega
      have hfl : (zss.take (k + 1)).flatten = (zss.take k).flatten ++ zs := by
        rw [List.take_add_one, hzk]; simp
      have hle : (zss.take (k + 1)).flatten.length ≤ zss.flatten.length := by
        conv => rhs; rw [← List.take_append_drop (k + 1) zss, List.flatten_append, List.length_append]
        omega
      have HFL := Lib.hid hfl
      have HLE : Hid ((msg ++ (zss.take k).flatten).length + zs.length ≤ 1125899906842624) := by
        have := HN.out
        rw [hfl, List.length_append] at hle
        unfold Hid; rw [List.length_append]; omega
      have HH := Lib.hid hh
      have HU := Lib.hid hu
      have HBY := Lib.hid hby
      clear hby hh hu hvk hzk hq3 hfl hle
      obtain ⟨msg1, HM1⟩ : ∃ x, Hid (x = msg ++ (zss.take k).flatten) := ⟨_, rfl⟩
      rw [← HM1.out] at HLE HH
      go_wp2
      go_loopw [5] (fun p wr => ∃ done rest : List Int, Hid (zs = done ++ rest) ∧ HashIs wr b (msg1 ++ done) ∧ Upd b w wr ∧ BytesAt wr b p rest) (fun p _ => lenOf p)
      case atStart => exact ⟨[], zs, rfl, by simpa using HH.out, HU.out, HBY.out⟩
      case round =>
        obtain ⟨done, rest, hzs, hh, hu, hby⟩ := hrel
        obtain ⟨a', cap', rfl, hcap, hr⟩ := hby
        clear HH HU HBY
        by_cases hpos : 0 < rest.length
        · obtain ⟨pb, po, rfl, h4, h5, h6⟩ := hr hpos
          have hsl := fun c (hc : c ≤ rest.length) => run_slice_tail pb po rest.length cap' c hc
          have HSL := Lib.hid hsl
          have HH := Lib.hid hh
          have HU := Lib.hid hu
          have H6 := Lib.hid h6
          have hlenb : Hid ((msg1 ++ done).length + rest.length ≤ 1125899906842624) := by
            have h1 := HLE.out
            have h2 := hzs.out
            rw [h2, List.length_append] at h1
            unfold Hid; rw [List.length_append]; omega
          have KW1 := Lib.hid (HK.out.upd hu hKb)
          have hpos' : (0 : Int) < (rest.length : Int) := by omega
          clear hr hh hu h6 hsl
          go_wp2_with fail
          refine (take_hash b (msg1 ++ done) pb po cap' rest hpos hlenb.out _ HH.out H6.out KW1.out hKb).mono ?_
          rintro e w1 ⟨rfl, hh1, hu1⟩
          have hc1 : takenN (msg1 ++ done).length rest.length ≤ rest.length := by rw [takenN]; omega
          have hc0 : 0 < takenN (msg1 ++ done).length rest.length := by rw [takenN]; omega
          have HH1 := Lib.hid hh1
          have HU1 := Lib.hid hu1
          generalize takenN (msg1 ++ done).length rest.length = c at *
          have hs1 := HSL.out c hc1
          clear hh1 hu1
          go_wp2
          go_roundw
          case rel =>
            refine ⟨done ++ rest.take c, rest.drop c, ?_, ?_, HU.out.trans HU1.out, ?_⟩
            · unfold Hid; rw [hzs.out, List.append_assoc, List.take_append_drop]
            · rw [← List.append_assoc]; exact HH1.out
            · exact bytes_tail hcap h4 (Nat.lt_of_lt_of_le h5 HU1.out.size) (rangeAt_upd HU1.out H6.out h5 h4) hc1
          case measure => simp [lenOf]; omega
        · have hpos' : ¬ ((0 : Int) < (rest.length : Int)) := by omega
          have HH : Hid (HashIs wr b (msg ++ (zss.take (k + 1)).flatten)) := by
            have e : rest = [] := List.eq_nil_of_length_eq_zero (by omega)
            have e2 : done = zs := by rw [hzs.out, e, List.append_nil]
            unfold Hid
            rw [HFL.out, ← List.append_assoc, ← HM1.out, ← e2]
            exact hh
          have HU := Lib.hid hu
          clear hr hh hu
          go_wp2
          go_roundw
          case rel => exact ⟨k + 1, by omega, by go_num, HH.out, HU.out⟩
          case measure => simp [intOf]; omega
    · have HH : Hid (HashIs wr b (msg ++ zss.flatten)) := by
        have e : k = zss.length := by have := EM.out; omega
        subst e
        rw [List.take_length] at hh
        exact hh
      have HU := Lib.hid hu
      have q0 : ¬ ((k : Int) < (m : Int)) := by omega
      clear hh hu
      go_wp2
      go_end0
      exact ⟨rfl, HH.out, HU.out⟩
end Go.Proofs.YtpafgoaeokgfcaaGreatDoor
