/- ShaBlocks answers true. -/
import Derived.Test.YtkfemngknmnnmaaDoorShaParts
import Derived.Test.YtkfemngknmnnmaaDoorShaMath3
import Derived.Deep.QuietTactic
import Derived.BigQuiet
import Derived.Deep.Cut
import Derived.Deep.DeepCutAuto
namespace Go.Proofs.YtkfemngknmnnmaaDoor
open Go.RowKit

/-- In a region that only reads: a whole array out of the middle of a block. -/
theorem wpStill_load_mid {P : Program} {ops : Array Oper} {w : World} {Q : Act → Prop} {a : Act} {op : Oper} {rest : List Oper} (hgd : op.guard = none) (ty : TypeId) (x : Operand) (ho : op.op = .load ty x)
    (b o : Nat) (hx : a.eval x = .pointer (some ⟨b, o, none⟩)) (cs : List Value) (d : TypeDesc) (hc : w.rangeAt b o cs)
    (hu : P.underlying ty = some d) (hd : d.isRow = true) (hi : (P.info? ty).map (·.size) = some cs.length)
    (h : wpStill P ops w Q rest (a.put op.dst (.agg cs.toArray))) : wpStill P ops w Q (op :: rest) a := by
  refine wpStill_step fun K hK => ?_
  rw [if_pos (by simp [Region.wanted, hgd])]
  unfold Oper.still execOp
  simp only [ho, hx, Instr.loadAt, Instr.sureAddr, Sem.run_bind, Sem.run_pure, Result.andThen_ok, run_loadVar_mid w b o ty cs d hc hu hd hi]
  exact ⟨rfl, hK _ h⟩

/-- The value v is a slice of blocks of 64 bytes each. -/
def BlocksIn (w : World) (v : Value) (zss : List (List Int)) : Prop :=
  ∃ (a : Option Addr) (cap : Nat), v = .slice a zss.length cap ∧ (∀ zs ∈ zss, zs.length = 64) ∧
    (0 < zss.length → ∃ qb qo, a = some ⟨qb, qo, none⟩ ∧ qb < w.heap.size ∧ ∀ (k : Nat) (zs : List Int), zss[k]? = some zs → w.rangeAt qb (qo + k * 64) (ints .u8 zs))

/-- The state and the bytes of the first k blocks. -/
structure Chain (w wr : World) (B sB : Nat) (al : Value) (st msg : List Int) : Prop where
  s : Blk wr sB 24 (ints .u32 st)
  own : wr.ownsRow B 5 1 al msg.length (ints .u8 msg)
  bel : Below w.heap.size w wr
  hB : w.heap.size ≤ B
  hs : w.heap.size ≤ sB
  BS : B ≤ wr.heap.size
theorem Chain.ne {w wr : World} {B sB : Nat} {al : Value} {st msg : List Int} (t : Chain w wr B sB al st msg) : ∀ g, al.ownBlock = some g → g ≠ sB := by
  intro g hg e
  obtain ⟨_, h2⟩ := t.own
  rcases h2 with ⟨rfl, _⟩ | ⟨g', cap, cur, rfl, _, hh, _⟩
  · cases hg
  · obtain rfl : g' = g := by simpa [Value.ownBlock] using hg
    have := t.s
    unfold Blk at this
    rw [← e, hh] at this
    cases this
theorem Chain.next {w w1 w2 : World} {B sB : Nat} {al : Value} {st msg : List Int} (t : Chain w w1 B sB al st msg) (hb : Below w1.heap.size w1 w2) : Chain w w2 B sB al st msg :=
  ⟨t.s.below hb t.s.lt, owns_same t.own (fun g hg => hb.block g (owns_lt t.own g hg)), t.bel.trans (hb.mono t.bel.size), t.hB, t.hs, Nat.le_trans t.BS hb.size⟩
theorem Chain.upd {w w1 w2 : World} {B sB : Nat} {al : Value} {st st2 msg : List Int} (t : Chain w w1 B sB al st msg) (hu : Upd sB w1 w2) (hs : Blk w2 sB 24 (ints .u32 st2)) : Chain w w2 B sB al st2 msg :=
  ⟨hs, owns_same t.own (fun g hg => hu.block g (owns_lt t.own g hg) (t.ne g hg)), hu.below t.bel t.hs t.bel.size, t.hB, t.hs, Nat.le_trans t.BS hu.size⟩
theorem Chain.app {w w1 w2 : World} {B sB : Nat} {al al2 : Value} {st msg msg2 : List Int} (t : Chain w w1 B sB al st msg) (hg : w1.grownBy w2 al.ownBlock) (ho : w2.ownsRow B 5 1 al2 msg2.length (ints .u8 msg2)) : Chain w w2 B sB al2 st msg2 :=
  ⟨by
    unfold Blk
    rw [hg.block sB t.s.lt (fun e => t.ne sB e.symm rfl)]
    exact t.s, ho, t.bel.grown hg t.bel.size (fun k hk => Nat.le_trans t.hB (owns_row t.own k hk)), t.hB, t.hs, Nat.le_trans t.BS hg.size⟩

theorem flat_length (zss : List (List Int)) (h : ∀ zs ∈ zss, zs.length = 64) : zss.flatten.length = 64 * zss.length := by
  induction zss with
  | nil => rfl
  | cons z r ih =>
    rw [List.flatten_cons, List.length_append, h z (by simp), ih (fun zs hz => h zs (by simp [hz])), List.length_cons]; omega
theorem flat_block (zss : List (List Int)) (h : ∀ zs ∈ zss, zs.length = 64) (k : Nat) (zs : List Int) (hk : zss[k]? = some zs) : (zss.flatten.drop (64 * k)).take 64 = zs := by
  induction zss generalizing k with
  | nil => simp at hk
  | cons z r ih =>
    have hz : z.length = 64 := h z (by simp)
    cases k with
    | zero =>
      simp at hk; subst hk
      rw [Nat.mul_zero, List.drop_zero, List.flatten_cons, ← hz, List.take_left']; rfl
    | succ k =>
      rw [List.flatten_cons, show 64 * (k + 1) = z.length + 64 * k by omega, ← List.drop_drop, List.drop_left']
      · exact ih (fun zs hz => h zs (by simp [hz])) k (by simpa using hk)
      · rfl

set_option maxHeartbeats 2000000 in
set_option maxRecDepth 100000 in
theorem blocks_main (a : Option Addr) (cap : Nat) (zss : List (List Int)) (w : World) (hv : BlocksIn w (.slice a zss.length cap) zss) (hl : zss.length ≤ 20) (hK : KW w) :
    Calls Tryd.prog 7 #[.slice a zss.length cap] w fun e w' => e = .returned (.bool true) ∧ Below w.heap.size w w' := by
  have HV := Lib.hid hv
  have HK := Lib.hid hK
  obtain ⟨m, em⟩ : ∃ m, Hid (m = zss.length) := ⟨_, rfl⟩
  rw [← em.out] at hl HV ⊢
  have q0 : ¬ ((20 : Int) < (m : Int)) := by omega
  clear hv hK
  go_enter Tryd.func7, Tryd.ntmps7
  go_wp2_with fail
  refine (alive_walk _ HK.out).mono ?_
  rintro e w1 ⟨rfl, hb1⟩
  have BEL1 := Lib.hid hb1
  have hsz1 := hb1.size
  clear hb1
  go_wp2_with (refine wpList_store_whole rfl 24 _ _ rfl (w1.heap.size + 1) (ints .u32 Sha.iv) rfl rfl 24 (ints .u32 (List.replicate 8 0)) (Blk.new2 _ _ _ _ _ (by simp) (by kernel_rfl)) rfl infoState (ints_oneCell _ _) ?_)
  intro w2 hb2 hup2 hsz2
  have hW3 : ∀ o1 o2, w1.heap.size < ((w1.alloc o1).alloc o2).heap.size := fun o1 o2 => by simp; omega
  have hW2 : ∀ o1 o2, w.heap.size ≤ ((w1.alloc o1).alloc o2).heap.size := fun o1 o2 => by simp; omega
  have hW1 : ∀ o1 o2, Below w.heap.size w ((w1.alloc o1).alloc o2) := fun o1 o2 => (BEL1.out.alloc hsz1 o1).alloc (by simp; omega) o2
  have G2 : Hid (Chain w w2 w1.heap.size (w1.heap.size + 1) (.slice (some ⟨w1.heap.size, 0, none⟩) 0 0) Sha.iv []) :=
    ⟨hb2, owns_same ((owns_empty w1 _ (Nat.le_refl _)).alloc _) (fun g hg => by
      have e : w1.heap.size = g := by simpa [Value.ownBlock] using hg
      subst e
      exact hup2.block _ (hW3 _ _) (by omega)), hup2.below (hW1 _ _) (by omega) (hW2 _ _), hsz1, by omega, by omega⟩
  obtain ⟨B, hB⟩ : ∃ B, B = w1.heap.size := ⟨_, rfl⟩
  obtain ⟨sB, hsB⟩ : ∃ sB, sB = w1.heap.size + 1 := ⟨_, rfl⟩
  rw [← hsB] at G2 ⊢
  rw [← hB] at G2
  have HBQ := Lib.hid hB
  clear hb2 hup2 hsz2 hB hsB BEL1 hsz1 hW1 hW2 hW3
  refine wpList_nil ?_
  go_wp2
  go_loopw [3, 5] (fun al i wr => ∃ k : Nat, k ≤ m ∧ i = .int .i64 k ∧ Chain w wr B sB al (Sha.stAfter zss.flatten k) (zss.take k).flatten) (fun _ i _ => m - (intOf i).toNat)
  case atStart =>
    refine ⟨0, by omega, rfl, ?_⟩
    rw [← HBQ.out]
    simpa [Sha.stAfter] using G2.out
  case round =>
    obtain ⟨k, hk, rfl, hg⟩ := hrel
    clear G2
    obtain ⟨aa, ca, eal, -⟩ := owns_bytes hg.own
    subst eal
    obtain ⟨a', cap', e1, h64, h4⟩ := HV.out
    have hlenk : (zss.take k).flatten.length = 64 * k := by
      rw [flat_length _ (fun zs hz => h64 zs (List.mem_of_mem_take hz)), List.length_take]
      have := em.out
      omega
    have H64 := Lib.hid h64
    by_cases hlt : k < m
    · obtain ⟨qb, qo, ea, hq2, hq3⟩ := h4 (by rw [← em.out]; omega)
      obtain ⟨zs, hzk⟩ : ∃ zs, zss[k]? = some zs := ⟨_, List.getElem?_eq_getElem (by rw [← em.out]; exact hlt)⟩
      have ea' : a = some ⟨qb, qo, none⟩ := by rw [← ea]; simpa using (Value.slice.inj e1).1
      have hzl : zs.length = 64 := h64 zs (List.mem_of_getElem? hzk)
      have hblk : (zss.flatten.drop (64 * k)).take 64 = zs := flat_block zss h64 k zs hzk
      have hrk := hq3 k zs hzk
      have hfl1 : (zss.take (k + 1)).flatten = (zss.take k).flatten ++ zs := by rw [List.take_add_one, hzk]; simp
      have hst8 : (Sha.stAfter zss.flatten k).length = 8 := Sha.stAfter_length _ _
      have hst1 : Sha.stAfter zss.flatten (k + 1) = Sha.compress (Sha.stAfter zss.flatten k) zs := by rw [Sha.stAfter, hblk]
      have HZL := Lib.hid hzl
      have HRK := Lib.hid hrk
      have HFL := Lib.hid hfl1
      have HST8 := Lib.hid hst8
      have HST1 := Lib.hid hst1
      have HLK := Lib.hid hlenk
      have G := Lib.hid hg
      have q1 : (k : Int) < (m : Int) := by omega
      subst ea'
      clear e1 h64 h4 ea hq3 hzk hzl hblk hrk hfl1 hst8 hst1 hlenk hg
      generalize (zss.take k).flatten = msg at *
      generalize Sha.stAfter zss.flatten k = st at *
      have HBY : Hid (BytesIn wr (.slice (some ⟨qb, qo + k * 64, none⟩) 64 64) zs) := by
        refine ⟨some ⟨qb, qo + k * 64, none⟩, 64, by rw [HZL.out], by rw [HZL.out]; exact Nat.le_refl _, fun _ => ⟨qb, qo + k * 64, rfl, Nat.lt_of_lt_of_le hq2 G.out.bel.size, fun j v hv => ?_⟩⟩
        rw [G.out.bel.cell (p := ⟨qb, qo + k * 64 + j, none⟩) hq2]; exact HRK.out j v hv
      have hmz : msg.length + zs.length ≤ 70368744177664 := by have := HLK.out; have := HZL.out; omega
      have HMZ := Lib.hid hmz
      have HNB : Hid (NilOk (.slice (some ⟨qb, qo + k * 64, none⟩) 64 64)) := trivial
      clear hmz
      go_wp2_with (with_reducible refine wpList_append_bytes (o := ⟨some 29, _, _, _, _, _⟩) ?a1 (.tmp 24) (.tmp 28) ?a2 B (.slice aa msg.length ca) msg ?a3 G.out.own (.slice (some ⟨qb, qo + k * 64, none⟩) 64 64) zs ?a5 HBY.out HNB.out HMZ.out G.out.BS ?_)
      try (case a1 => rfl)
      try (case a2 => rfl)
      try (case a3 => rfl)
      try (case a5 => rfl)
      intro al w4 ha4 hg4
      have ha4' : w4.ownsRow B 5 1 al (msg ++ zs).length (ints .u8 (msg ++ zs)) := by first | exact ha4 | (rw [List.length_append]; simpa using ha4)
      have G4 := Lib.hid (G.out.app hg4 ha4')
      clear ha4 ha4' hg4 G HBY
      go_wp2_with fail
      have hr8 : Hid (w4.drew.rangeAt sB 0 (ints .u32 st)) := G4.out.s.drew.whole
      have hr64 : Hid (w4.drew.rangeAt qb (qo + k * 64) (ints .u8 zs)) := fun j v hv => by
        show w4.cell? _ = _
        rw [G4.out.bel.cell (p := ⟨qb, qo + k * 64 + j, none⟩) hq2]; exact HRK.out j v hv
      have hi8 : Hid ((Tryd.prog.info? 24).map (·.size) = some (ints .u32 st).length) := by unfold Hid; rw [ints_length, HST8.out]; exact infoState
      have hi64 : Hid ((Tryd.prog.info? 25).map (·.size) = some (ints .u8 zs).length) := by unfold Hid; rw [ints_length, HZL.out]; exact infoBlock
      have hcl : (Sha.compress st zs).length = 8 := by rw [Sha.compress_length, HST8.out]
      have hi8' : Hid ((Tryd.prog.info? 24).map (·.size) = some (ints .u32 (Sha.compress st zs)).length) := by unfold Hid; rw [ints_length, hcl]; exact infoState
      have HL8 : Hid ((ints .u32 (Sha.compress st zs)).length = (ints .u32 st).length) := by unfold Hid; rw [ints_length, hcl, ints_length, HST8.out]
      have G5 : Hid (Chain w w4.drew B sB al st (msg ++ zs)) := G4.out.next (Below.refl _ _).drew
      clear hcl G4
      refine wp_region_still_tail 5 (by kernel_rfl) (by kernel_rfl) ?_
      simp only [List.take_succ_cons, List.take_zero, List.drop_succ_cons, List.drop_zero]
      refine wpStill_load_mid rfl 24 _ rfl sB 0 rfl (ints .u32 st) _ hr8.out Tryd.underlying24 rfl hi8.out ?_
      iterate 3 still_step
      refine wpStill_load_mid rfl 25 _ rfl qb (qo + k * 64) rfl (ints .u8 zs) _ hr64.out Tryd.underlying25 rfl hi64.out ?_
      refine wpStill_nil ?_
      go_wp2_with fail
      refine (compress_walk st zs HST8.out HZL.out _ (HK.out.below G5.out.bel HK.out.lt)).mono ?_
      rintro e w6 ⟨rfl, hb6⟩
      have G6 := Lib.hid (G5.out.next hb6)
      clear hb6 G5 hr8 hr64
      go_wp2_with (refine wpList_store_whole rfl 24 _ _ rfl sB (ints .u32 (Sha.compress st zs)) rfl rfl 24 (ints .u32 st) G6.out.s HL8.out hi8'.out (ints_oneCell _ _) ?_)
      intro w7 hb7 hup7 hsz7
      have G7 := Lib.hid (G6.out.upd hup7 hb7)
      clear hb7 hup7 hsz7 G6
      refine wpList_nil ?_
      go_wp2
      go_roundw
      case rel => exact ⟨k + 1, by omega, by go_num, by rw [HST1.out, HFL.out]; exact G7.out⟩
      case measure => simp [intOf]; omega
    · have q1 : ¬ ((k : Int) < (m : Int)) := by omega
      have ek : k = zss.length := by rw [← em.out]; omega
      have hst8 : (Sha.stAfter zss.flatten k).length = 8 := Sha.stAfter_length _ _
      have hmsg : (zss.take k).flatten = zss.flatten := by rw [ek, List.take_length]
      have HST8 := Lib.hid hst8
      have G := Lib.hid hg
      rw [← hmsg] at G HST8
      have HLK := Lib.hid hlenk
      clear hg hlenk h4 e1 h64 hst8 ek hmsg
      generalize (zss.take k).flatten = msg at *
      have hml : msg.length ≤ 2000 := by have := HLK.out; omega
      have hmod : msg.length % 64 = 0 := by have := HLK.out; omega
      have hps : Sha.padSize msg.length = 64 := by rw [Sha.padSize, if_neg (by omega)]; omega
      have hsum : Sha.sum msg = Sha.digest (Sha.compress (Sha.stAfter msg k) (Sha.pad msg.length)) := by
        have hpl : (Sha.pad msg.length).length = 64 := by rw [Sha.pad_length, hps]
        have hlk := HLK.out
        rw [Sha.sum, Sha.stateOf, show (msg ++ Sha.pad msg.length).length / 64 = k + 1 by rw [List.length_append, hpl, hlk]; omega, Sha.stAfter, Sha.stAfter_append _ _ _ (by omega), List.drop_left' hlk, List.take_of_length_le (by omega)]
      have HSUM := Lib.hid hsum
      have HPS := Lib.hid hps
      have HBYM := Lib.hid (owns_bytes G.out.own)
      clear hmod hsum hps
      generalize Sha.stAfter msg k = st at *
      obtain ⟨L, eL⟩ : ∃ L, Hid (msg.length = L) := ⟨_, rfl⟩
      rw [eL.out] at hml HPS HSUM HLK G HBYM ⊢
      go_wp2_with fail
      refine (pad_some L (by omega) _).mono ?_
      rintro e w3 ⟨p, hp1, rfl, hp2, hb3⟩
      rw [HPS.out]
      have G3 := Lib.hid (G.out.next hb3)
      have P3 := Lib.hid hp2
      have hpw : w.heap.size ≤ p := by have := G.out.bel.size; omega
      have hplt := P3.out.lt
      clear hp1 hp2 hb3 G
      go_wp2_with (with_reducible refine wpList_store_whole (op := ⟨none, Op.store 25 _ _, _, _, _, _⟩) ?a1 25 (.tmp 7) (.tmp 42) ?a2 w3.heap.size (ints .u8 (List.replicate 64 0)) ?a3 ?a4 25 (ints .u8 (List.replicate 64 0)) ?a5 ?a6 ?a7 (ints_oneCell _ _) ?_)
      case a1 => rfl
      case a2 => rfl
      case a3 => rfl
      case a4 => kernel_rfl
      case a5 => exact Blk.new2 _ _ _ _ _ rfl (by kernel_rfl)
      case a6 => rfl
      case a7 => kernel_rfl
      intro w4 hb4 hup4 hsz4
      have L4 := Lib.hid hb4
      have BW4 : Hid (Below w3.heap.size w3 w4) := hup4.below ((Below.refl w3.heap.size w3).alloc (Nat.le_refl _) _) (Nat.le_refl _) (by simp)
      obtain ⟨lB, elB⟩ : ∃ lB, lB = w3.heap.size := ⟨_, rfl⟩
      rw [← elB] at L4 BW4 hplt ⊢
      have ELB := Lib.hid elB
      clear hb4 hup4 hsz4 elB
      refine wpList_nil ?_
      have hpad64 : (Sha.pad L).length = 64 := by rw [Sha.pad_length, HPS.out]
      have HPL := Lib.hid hpad64
      clear hpad64
      go_wp2
      go_loopw [8] (fun i wr => ∃ j : Nat, j ≤ 64 ∧ i = .int .i64 j ∧ Blk wr lB 25 (ints .u8 ((Sha.pad L).take j ++ List.replicate (64 - j) 0)) ∧ Below lB w3 wr) (fun i _ => 64 - (intOf i).toNat)
      case atStart => exact ⟨0, by omega, rfl, by simpa using L4.out, BW4.out⟩
      case round =>
        obtain ⟨j, hj, rfl, hbl, hbw⟩ := hrel
        clear L4 BW4
        by_cases hjl : j < 64
        · have cp : wr.cell? ⟨p, j, none⟩ = some (.int .u8 ((Sha.pad L).getD j 0)) := (P3.out.below hbw hplt).cell (ints_getD (by rw [HPL.out]; exact hjl))
          have hlj : ((Sha.pad L).take j ++ List.replicate (64 - j) (0 : Int)).length = 64 := by rw [List.length_append, List.length_take, List.length_replicate, HPL.out]; omega
          have cl := hbl.cell (ints_getD (k := .u8) (j := j) (by omega))
          have fl := hbl.free j
          have q2 : (j : Int) < 64 := by omega
          have HBL := Lib.hid hbl
          have HBW := Lib.hid hbw
          clear hbl hbw hlj
          go_wp2
          go_roundw
          case rel =>
            refine ⟨j + 1, by omega, by go_num, ?_, HBW.out.setCell (Nat.le_refl _) _⟩
            have hs := HBL.out.set j (.int .u8 ((Sha.pad L)[j]?.getD 0))
            rw [ints_set] at hs
            have e : ((Sha.pad L).take j ++ List.replicate (64 - j) (0 : Int)).set j ((Sha.pad L)[j]?.getD 0) = (Sha.pad L).take (j + 1) ++ List.replicate (64 - (j + 1)) 0 := by
              have h1 := Sha.set_zeros ((Sha.pad L).take j) (64 - (j + 1)) ((Sha.pad L)[j]?.getD 0)
              have h2 : ((Sha.pad L).take j).length = j := by rw [List.length_take, HPL.out]; omega
              rw [h2, show 64 - (j + 1) + 1 = 64 - j by omega] at h1
              rw [h1, List.take_add_one, List.getElem?_eq_getElem (by rw [HPL.out]; exact hjl)]
              simp
            rw [e] at hs
            exact hs
          case measure => simp [intOf]; omega
        · have q2 : ¬ ((j : Int) < 64) := by omega
          have q3 : decide ((j : Int) < 64) = false := by simp; omega
          have HBL : Hid (Blk wr lB 25 (ints .u8 (Sha.pad L))) := by
            have e : j = 64 := by omega
            subst e
            have e2 : (Sha.pad L).take 64 ++ List.replicate (64 - 64) 0 = Sha.pad L := by
              rw [List.take_of_length_le (by rw [HPL.out]; exact Nat.le_refl _)]; simp
            rw [e2] at hbl
            exact hbl
          have G4 : Hid (Chain w wr B sB (.slice aa L ca) st msg) := G3.out.next (ELB.out ▸ hbw)
          clear hbl hbw G3 P3
          have hi8 : Hid ((Tryd.prog.info? 24).map (·.size) = some (ints .u32 st).toArray.size) := by unfold Hid; rw [List.size_toArray, ints_length, HST8.out]; exact infoState
          have hi64 : Hid ((Tryd.prog.info? 25).map (·.size) = some (ints .u8 (Sha.pad L)).toArray.size) := by unfold Hid; rw [List.size_toArray, ints_length, HPL.out]; exact infoBlock
          have hcl : (Sha.compress st (Sha.pad L)).length = 8 := by rw [Sha.compress_length, HST8.out]
          have hi8' : Hid ((Tryd.prog.info? 24).map (·.size) = some (ints .u32 (Sha.compress st (Sha.pad L))).length) := by unfold Hid; rw [ints_length, hcl]; exact infoState
          have HL8 : Hid ((ints .u32 (Sha.compress st (Sha.pad L))).length = (ints .u32 st).length) := by unfold Hid; rw [ints_length, hcl, ints_length, HST8.out]
          have HCL := Lib.hid hcl
          clear hcl
          go_upto_region 20 with (fail)
          refine wp_region_list ?_
          refine wpList_load_row rfl 24 (.tmp 4) rfl sB rfl 24 (ints .u32 st).toArray (0, 0) _ G4.out.s Tryd.underlying24 rfl hi8.out ?_
          refine wpList_load_row rfl 25 (.tmp 7) rfl lB rfl 25 (ints .u8 (Sha.pad L)).toArray (0, 0) _ HBL.out Tryd.underlying25 rfl hi64.out ?_
          go_wp2_with fail
          refine (compress_walk st (Sha.pad L) HST8.out HPL.out _ (HK.out.below G4.out.bel HK.out.lt)).mono ?_
          rintro e w6 ⟨rfl, hb6⟩
          have G6 := Lib.hid (G4.out.next hb6)
          clear hb6 G4 HBL
          obtain ⟨st2, est2⟩ : ∃ x, Hid (Sha.compress st (Sha.pad L) = x) := ⟨_, rfl⟩
          rw [est2.out] at HSUM hi8' HL8 HCL ⊢
          go_wp2_with (refine wpList_store_whole rfl 24 _ _ rfl sB (ints .u32 st2) rfl rfl 24 (ints .u32 st) G6.out.s HL8.out hi8'.out (ints_oneCell _ _) ?_)
          intro w7 hb7 hup7 hsz7
          have G7 := Lib.hid (G6.out.upd hup7 hb7)
          clear hb7 hup7 hsz7 G6
          refine wpList_nil ?_
          go_wp2_with fail
          refine (sum_walk _ msg _ (by have := owns_bytes G7.out.own; exact this) (by rw [eL.out]; omega) (HK.out.below G7.out.bel HK.out.lt)).mono ?_
          rintro e w8 ⟨rfl, hb8⟩
          rw [HSUM.out]
          have G8 := Lib.hid (G7.out.next hb8)
          clear hb8 G7
          have hd32 : (Sha.digest st2).length = 32 := Sha.digestTo_length _ _
          have hid : Hid ((Tryd.prog.info? 29).map (·.size) = some (ints .u8 (Sha.digest st2)).length) := by unfold Hid; rw [ints_length, hd32]; exact infoDigest
          have hld : Hid ((ints .u8 (Sha.digest st2)).length = (ints .u8 (List.replicate 32 0)).length) := by unfold Hid; rw [ints_length, hd32, ints_length, List.length_replicate]
          have HD32 := Lib.hid hd32
          clear hd32
          go_wp2_with (refine wpList_store_whole rfl 29 _ _ rfl w8.heap.size (ints .u8 (Sha.digest st2)) rfl rfl 29 (ints .u8 (List.replicate 32 0)) (Blk.new2 _ _ _ _ _ rfl (by kernel_rfl)) hld.out hid.out (ints_oneCell _ _) ?_)
          intro w9 hb9 hup9 hsz9
          have S9 := Lib.hid (hup9.blk (G8.out.s.alloc _) (by have := G8.out.s.lt; omega))
          have BEL9 := Lib.hid (hup9.below (G8.out.bel.alloc G8.out.bel.size _) G8.out.bel.size (by have := G8.out.bel.size; simp; omega))
          have D9 := Lib.hid hb9
          obtain ⟨dB, edB⟩ : ∃ dB, dB = w8.heap.size := ⟨_, rfl⟩
          rw [← edB] at D9 ⊢
          clear hb9 hup9 hsz9 edB G8
          refine wpList_nil ?_
          go_wp2
          go_loopw [10] (fun i wr => ∃ j : Nat, j ≤ 32 ∧ i = .int .i64 j ∧ ∃ n, wr = w9.drewN n) (fun i _ => 32 - (intOf i).toNat)
          case atStart => exact ⟨0, by omega, rfl, 0, rfl⟩
          case round =>
            obtain ⟨j, hj, rfl, n, rfl⟩ := hrel
            by_cases hjl : j < 32
            · have cd : w9.cell? ⟨dB, j, none⟩ = some (.int .u8 (st2[j / 4]?.getD 0 / 2 ^ (24 - 8 * (j % 4)) % 256)) := D9.out.cell (ints_get (Sha.digest_get st2 j hjl))
              have cs : w9.cell? ⟨sB, j / 4, none⟩ = some (.int .u32 (st2.getD (j / 4) 0)) := S9.out.cell (ints_getD (by rw [HCL.out]; omega))
              rw [List.getD_eq_getElem?_getD] at cs
              generalize st2[j / 4]?.getD 0 = x at *
              have q2 : (j : Int) < 32 := by omega
              have hand := Sha.i64_and3 j hjl
              have f1 : IntKind.i64.wrap ((j : Int).tdiv 4) = ((j / 4 : Nat) : Int) := by
                rw [Int.tdiv_eq_ediv_of_nonneg (by omega)]; exact (IntWalk.i64_in _ (by omega)).trans (by omega)
              have f2 : (((j / 4 : Nat) : Int)) < 8 := by omega
              have f3 : 0 ≤ ((j / 4 : Nat) : Int) := by omega
              go_wp2
              go_quiet (fail)
              go_wp2
              go_roundw
              case rel => exact ⟨j + 1, by omega, by go_num, n + nq, by simp [World.drewN]⟩
              case measure => simp [intOf]; omega
            · have q2 : ¬ ((j : Int) < 32) := by omega
              have q3 : decide ((j : Int) < 32) = false := by simp; omega
              go_wp2
              go_ret
              exact ⟨rfl, BEL9.out.trans ⟨rfl, rfl, rfl, Nat.le_refl _, fun _ _ => rfl⟩⟩
theorem blocks_big (a : Option Addr) (cap m : Nat) (w : World) (hl : 20 < m) (hK : KW w) :
    Calls Tryd.prog 7 #[.slice a m cap] w fun e w' => e = .returned (.bool true) ∧ Below w.heap.size w w' := by
  have HK := Lib.hid hK
  have q0 : (20 : Int) < (m : Int) := by omega
  clear hK
  go_enter Tryd.func7, Tryd.ntmps7
  go_wp2_with fail
  refine (alive_walk _ HK.out).mono ?_
  rintro e w1 ⟨rfl, hb1⟩
  have BEL1 := Lib.hid hb1
  clear hb1
  go_wp2
  go_ret
  exact ⟨rfl, BEL1.out⟩
end Go.Proofs.YtkfemngknmnnmaaDoor
