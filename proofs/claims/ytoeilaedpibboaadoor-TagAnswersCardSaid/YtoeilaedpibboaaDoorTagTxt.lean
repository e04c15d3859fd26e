/- A string's bytes as a slice; package tag's Texts. -/
import Derived.Test.YtoeilaedpibboaaDoorTagSet
import Derived.Laws.IdiomStrings
namespace Go.Proofs.YtoeilaedpibboaaDoor
open Go.RowKit
set_option maxRecDepth 100000

/-- A string's bytes. -/
def strInts (s : ByteArray) : List Int := s.data.toList.map fun b => (b.toNat : Int)
theorem strInts_length (s : ByteArray) : (strInts s).length = s.size := by simp [strInts]
theorem run_str_bytes (s : ByteArray) (w : World) : ∃ v w', (convert 9 36 (.string s)).run Tryd.prog w = .ok v w' ∧ BytesIn w' v (strInts s) ∧ NilOk v ∧ Below w.heap.size w w' ∧ w'.heap.size = w.heap.size + 1 ∧ ∃ c, v = .slice (some ⟨w.heap.size, 0, none⟩) (strInts s).length c := by
  refine ⟨_, _, run_bytes_of_string w 9 36 5 s Tryd.underlying9 Tryd.underlying36 Tryd.underlying5, ?_, trivial, ?_, by simp, ?_⟩
  · refine ⟨some ⟨w.heap.size, 0, none⟩, grownCap w s.size 0 5, by rw [strInts_length], ?_, fun _ => ⟨w.heap.size, 0, rfl, by simp, fun j v hv => ?_⟩⟩
    · rw [strInts_length]; exact grownCap_ge _ _ _ _
    · have hj : j < s.size := by have := (List.getElem?_eq_some_iff.1 hv).1; rwa [ints_length, strInts_length] at this
      have e : (w.drew.alloc (.cells (bytesRow s (grownCap w s.size 0 5)) 5 ((bytesRow s (grownCap w s.size 0 5)).size, (bytesRow s (grownCap w s.size 0 5)).size + 1))).cell? ⟨w.heap.size, 0 + j, none⟩ = (bytesRow s (grownCap w s.size 0 5))[0 + j]? := World.cell?_alloc_mark w.drew _ _ _ _
      rw [e, Nat.zero_add, bytesRow_at s _ j hj]
      rw [← hv, ints_getD (by rw [strInts_length]; exact hj)]
      have hjd : j < s.data.size := hj
      simp [strInts]
      rw [Array.getElem?_eq_getElem hjd]; rfl
  · exact (Below.refl _ _).drew.alloc (Nat.le_refl _) _
  · exact ⟨_, by rw [strInts_length]⟩

/-- The value v is a slice of just these strings. -/
def StrsIn (w : World) (v : Value) (ss : List ByteArray) : Prop :=
  ∃ a cap, v = .slice a ss.length cap ∧ (0 < ss.length → ∃ pb po, a = some ⟨pb, po, none⟩ ∧ pb < w.heap.size ∧ w.rangeAt pb po (ss.map Value.string))
theorem wpList_str_bytes {w : World} {ops : Array Oper} {rest : List Oper} {o : Oper} {a : Act} {Q : Exit → Act → World → Prop} (hgd : o.guard = none) (x : Operand) (ho : o.op = .convert 9 36 x) (s : ByteArray) (hx : a.eval x = .string s)
    (h : ∀ c w', BytesIn w' (.slice (some ⟨w.heap.size, 0, none⟩) (strInts s).length c) (strInts s) → Below w.heap.size w w' → w'.heap.size = w.heap.size + 1 → wpList Tryd.prog ops Q rest (a.put o.dst (.slice (some ⟨w.heap.size, 0, none⟩) (strInts s).length c)) w') : wpList Tryd.prog ops Q (o :: rest) a w := by
  obtain ⟨v, w', hr, h1, _, h3, h4, c, rfl⟩ := run_str_bytes s w
  refine wpList_value hgd _ (w' := w') ?_ (h c w' h1 h3 h4)
  unfold execOp
  simp only [ho, hx, Sem.run_bind, Sem.run_pure, hr, Result.andThen_ok]
set_option maxHeartbeats 1000000 in
theorem texts_walk (kind : Int) (v : Value) (ss : List ByteArray) (w : World) (hv : StrsIn w v ss) (hm : ss.length ≤ 1000000) (hf : (ss.map strInts).flatten.length ≤ 1000000) (hK : KW w) :
    Calls Tryd.prog 21 #[.int .u8 kind, v] w fun e w' => e = .returned (.agg (ints .u8 (nodeL kind (ss.map strInts))).toArray) ∧ Below w.heap.size w w' := by
  obtain ⟨a, cap, rfl, hq⟩ := hv
  obtain ⟨m, em⟩ : ∃ m, Hid (m = ss.length) := ⟨_, rfl⟩
  rw [← em.out] at hm hq ⊢
  have HQ := Lib.hid hq
  have HF := Lib.hid hf
  have HK := Lib.hid hK
  clear hq hf hK
  go_enter Tryd.func21, Tryd.ntmps21
  go_wp2_with (refine wpList_make_blk _ rfl _ _ 38 rfl 36 (.slice none 0 0) 24 Tryd.underlying38 infoBytes3 rfl _ _ _ _ m rfl rfl rfl rfl (by omega) (by omega) ?_)
  intro w2 hb2 hbe2 hsz2
  have P2 : Hid (Blk w2 (w.heap.size + 1) 36 ([] ++ List.replicate (m - 0) (.slice none 0 0))) := by unfold Hid; simpa using hb2
  have R2 : Hid (Blk w2 w.heap.size 24 (ints .u8 (List.replicate 32 0))) := (Blk.new2 w _ _ _ _ rfl (by kernel_rfl)).below hbe2 (by simp)
  have HB2 : Hid (Below w.heap.size w w2) := ((Below.refl _ _).alloc (Nat.le_refl _) _).trans (hbe2.mono (by simp))
  clear hb2 hbe2 hsz2
  go_wp2
  go_loopw [13, 6, 7] (fun i _ _ wr => ∃ (k : Nat) (ps : List Value), k ≤ m ∧ i = .int .i64 k ∧ ps.length = k ∧ Blk wr (w.heap.size + 1) 36 (ps ++ List.replicate (m - k) (.slice none 0 0)) ∧ Blk wr w.heap.size 24 (ints .u8 (List.replicate 32 0)) ∧ Below w.heap.size w wr ∧
    ∀ (i : Nat) (v : Value) (s : ByteArray), ps[i]? = some v → ss[i]? = some s → BytesAt wr (w.heap.size + 1) v (strInts s) ∧ NilOk v) (fun i _ _ _ => m - (intOf i).toNat)
  case atStart => exact ⟨0, [], by omega, rfl, rfl, P2.out, R2.out, HB2.out, fun i v s h => by simp at h⟩
  case round =>
    obtain ⟨k, ps, hk, rfl, hps, hPb, hR, hB, hall⟩ := hrel
    clear P2 R2 HB2
    by_cases hlt : k < m
    · obtain ⟨qb, qo, rfl, hq2, hq3⟩ := HQ.out (by omega)
      obtain ⟨s, hsk⟩ : ∃ s, ss[k]? = some s := ⟨_, List.getElem?_eq_getElem (by rw [← em.out]; exact hlt)⟩
      have cq : wr.cell? ⟨qb, qo + k, none⟩ = some (.string s) := (hB.cell (p := ⟨qb, qo + k, none⟩) hq2).trans (hq3 k _ (by simp [hsk]))
      have q1 : (k : Int) < (m : Int) := by omega
      have HPS := Lib.hid hps
      have HP := Lib.hid hPb
      have HR := Lib.hid hR
      have HB := Lib.hid hB
      have HALL := Lib.hid hall
      have HSK := Lib.hid hsk
      clear hps hPb hR hB hall hsk hq3
      go_wp2_with (refine wpList_str_bytes rfl _ rfl s rfl ?_)
      intro c w3 hby hb3 hsz3
      have hlt3 := Blk.lt HP.out
      have P3 := HP.out.below hb3 hlt3
      have hne : w.heap.size + 1 ≠ wr.heap.size := by omega
      have BA : BytesAt w3 (w.heap.size + 1) (.slice (some ⟨wr.heap.size, 0, none⟩) (strInts s).length c) (strInts s) := by
        obtain ⟨a', c', e', h2', h3'⟩ := hby
        refine ⟨a', c', e', h2', fun hp => ?_⟩
        obtain ⟨pb, po, h4', h5', h6'⟩ := h3' hp
        have : a' = some ⟨wr.heap.size, 0, none⟩ := by have := (Value.slice.inj e').1; exact this.symm
        rw [this] at h4'
        have hpb : pb = wr.heap.size := by simpa using (Addr.mk.inj (Option.some.inj h4')).1.symm
        exact ⟨pb, po, by rw [this, h4'], by omega, h5', h6'⟩
      have ALL3 : Hid (∀ (i : Nat) (v : Value) (s' : ByteArray), (ps ++ [.slice (some ⟨wr.heap.size, 0, none⟩) (strInts s).length c])[i]? = some v → ss[i]? = some s' → BytesAt w3 (w.heap.size + 1) v (strInts s') ∧ NilOk v) := fun i v s' hi hs' => by
        by_cases hil : i < ps.length
        · rw [List.getElem?_append_left hil] at hi
          obtain ⟨h1, h2⟩ := HALL.out i v s' hi hs'
          exact ⟨h1.below hb3 (Nat.le_refl _), h2⟩
        · have hik : i = k := by
            have := (List.getElem?_eq_some_iff.1 hi).1
            rw [List.length_append, HPS.out] at this
            have := HPS.out
            simp at *; omega
          subst hik
          rw [List.getElem?_append_right (by rw [HPS.out]; omega), HPS.out] at hi
          simp at hi
          subst hi
          rw [HSK.out] at hs'
          obtain rfl := Option.some.inj hs'
          exact ⟨BA, trivial⟩
      have cP := P3.cell (j := k) (v := .slice none 0 0) (by rw [List.getElem?_append_right (by rw [HPS.out]; omega), HPS.out, List.getElem?_replicate, if_pos (by omega)])
      have fP := P3.free k
      have HP3 := Lib.hid P3
      have HR3 := Lib.hid (HR.out.below hb3 HR.out.lt)
      have HB3 := Lib.hid (HB.out.trans (hb3.mono HB.out.size))
      clear P3 BA hby hb3 hsz3 HP HR HB HALL cq
      generalize (strInts s).length = sl at *
      generalize wr.heap.size = nb at *
      go_wp2
      refine ⟨⟨k + 1, ps ++ [.slice (some ⟨nb, 0, none⟩) sl c], by omega, by go_num, by rw [List.length_append, HPS.out]; rfl, ?_, HR3.out.other (by show w.heap.size ≠ w.heap.size + 1; omega) _, HB3.out.setCell (by show w.heap.size ≤ w.heap.size + 1; omega) _, fun i v s' h1 h2 => ?_⟩, by simp [intOf]; omega⟩
      · have h1 := HP3.out.set k (.slice (some ⟨nb, 0, none⟩) sl c)
        have h2 := set_fill ps (m - (k + 1)) (.slice none 0 0) (.slice (some ⟨nb, 0, none⟩) sl c)
        rw [HPS.out, show m - (k + 1) + 1 = m - k by omega] at h2
        rw [h2] at h1
        exact h1
      · obtain ⟨h3, h4⟩ := ALL3.out i v s' h1 h2
        exact ⟨h3.upd ((Upd.refl _ _).setCell k _), h4⟩
    · have q1 : ¬ (k : Int) < (m : Int) := by omega
      have HPI : Hid (PartsIn wr (.slice (some ⟨w.heap.size + 1, 0, none⟩) m m) (ss.map strInts)) := by
        have e : k = m := by omega
        subst e
        have hP' : Blk wr (w.heap.size + 1) 36 ps := by simpa using hPb
        refine ⟨some ⟨w.heap.size + 1, 0, none⟩, k, ps, by rw [List.length_map, ← em.out], by rw [List.length_map, ← em.out, hps], by rw [List.length_map, ← em.out]; omega, fun _ => ⟨w.heap.size + 1, 0, rfl, hP'.lt, hP'.whole⟩, fun i v zs hv hz => ?_⟩
        simp only [List.getElem?_map, Option.map_eq_some_iff] at hz
        obtain ⟨s, hs, rfl⟩ := hz
        obtain ⟨h1, h2⟩ := hall i v s hv hs
        refine ⟨h1.in, h2, ?_⟩
        have : (strInts s).length ≤ (ss.map strInts).flatten.length := by
          exact (List.sublist_flatten_of_mem (List.mem_map.2 ⟨s, List.mem_of_getElem? hs, rfl⟩)).length_le
        have := HF.out
        omega
      have HML : Hid ((ss.map strInts).length ≤ 1000000) := by unfold Hid; rw [List.length_map, ← em.out]; exact hm
      have R3 := Lib.hid hR
      have HB3 := Lib.hid hB
      have KW3 := Lib.hid (HK.out.below hB HK.out.lt)
      clear hPb hR hB hall hps
      obtain ⟨rl, hrl⟩ : ∃ r, Hid (ss.map strInts = r) := ⟨_, rfl⟩
      rw [hrl.out] at HPI HML HF
      go_wp2_with fail
      refine (node_walk kind _ rl _ HPI.out HML.out HF.out KW3.out).mono ?_
      rintro e w4 ⟨rfl, hb4⟩
      have R4 := Lib.hid (R3.out.below hb4 R3.out.lt)
      have HB4 := Lib.hid (HB3.out.trans (hb4.mono HB3.out.size))
      clear hb4 R3 HB3 KW3 HPI
      obtain ⟨res, hres⟩ : ∃ r, Hid (nodeL kind rl = r) := ⟨_, rfl⟩
      have HRS : Hid (res.length = 32) := by unfold Hid; rw [← hres.out]; exact nodeL_length _ _
      rw [hres.out]
      have HI : Hid ((Tryd.prog.info? 24).map (·.size) = some (ints .u8 res).length) := by unfold Hid; rw [ints_length, HRS.out]; exact infoDigest
      have HI' : Hid ((Tryd.prog.info? 24).map (·.size) = some (ints .u8 res).toArray.size) := by unfold Hid; rw [List.size_toArray, ints_length, HRS.out]; exact infoDigest
      have HL : Hid ((ints .u8 res).length = (ints .u8 (List.replicate 32 0)).length) := by unfold Hid; rw [ints_length, HRS.out, ints_length, List.length_replicate]
      go_wp2_with (refine wpList_store_whole rfl 24 _ _ rfl w.heap.size (ints .u8 res) rfl rfl 24 (ints .u8 (List.replicate 32 0)) R4.out HL.out HI.out (ints_oneCell _ _) ?_)
      intro w5 hb5 hup5 _
      refine wpList_nil ?_
      go_wp2
      have hbl := hup5.below HB4.out (Nat.le_refl _) HB4.out.size
      refine bodyPost_ret (v := .agg (ints .u8 res).toArray) ?_ rfl ⟨by rw [hrl.out, hres.out], hbl⟩
      refine results_cell_row (g := w.heap.size) (t := 24) (cs := (ints .u8 res).toArray) (fr := (0, 0)) Tryd.results21 _ _ _ ?_ ?_ Tryd.underlying24 rfl HI'.out
      · rfl
      · exact hb5
end Go.Proofs.YtoeilaedpibboaaDoor
