/- AreaLasts answers true. -/
import Derived.Test.YtijmaigcdcloiaaDoorAreaLs
namespace Go.Proofs.YtijmaigcdcloiaaDoor
open Go Go.RowKit
set_option maxRecDepth 100000

/-- A call, and a row that is made: whichever comes up first. -/
theorem reg_cp {P : Program} {ops : Array Oper} {Q : Exit → Act → World → Prop} {S : World → Prop} {fuel : Nat} {listed : Array Bool} {a : Act} {w : World} (c p : Nat) (dc dp : Tmp) (f : FuncId) (args : Array Value) (R : World → Ending → World → Prop) (vp : Nat → Value) (o : Obj) (X : Value → Nat → World → Prop)
    (hst : (ops[c]?.isSome && ops[p]?.isSome && (opAt ops c).guard.isNone && (opAt ops p).guard.isNone && (Region.ready .any ops listed == [c, p]) && (Region.ready .any ops (listed.setIfInBounds c true) == [p]) && (Region.ready .any ops (listed.setIfInBounds p true) == [c])) = true)
    (hdc : (opAt ops c).dst = some dc) (hdp : (opAt ops p).dst = some dp) (n : dc ≠ dp) (ecp : c ≠ p)
    (rc0 : (execOp a.eval (opAt ops c)).run P w = .ok (.enter f args) w) (rc1 : ∀ v w1, (execOp (a.put (some dp) v).eval (opAt ops c)).run P w1 = .ok (.enter f args) w1)
    (rp0 : ∀ w1 : World, (execOp a.eval (opAt ops p)).run P w1 = .ok (.value (vp w1.heap.size)) (w1.alloc o)) (rp1 : ∀ v w1, (execOp (a.put (some dc) v).eval (opAt ops p)).run P w1 = .ok (.value (vp w1.heap.size)) (w1.alloc o))
    (hc : ∀ w1, Below w.heap.size w w1 → Calls P f args w1 (R w1)) (hS : ∀ w1, Below w.heap.size w w1 → S w1)
    (hA : ∀ e w2, R w e w2 → Below w.heap.size w w2 ∧ ∃ v, e = .returned v ∧ X v w2.heap.size (w2.alloc o)) (hB : ∀ e w3, R (w.alloc o) e w3 → Below w.heap.size w w3 ∧ ∃ v, e = .returned v ∧ X v w.heap.size w3)
    (h : ∀ v q w3, X v q w3 → wpAnyH P .any ops Q S fuel ((listed.setIfInBounds c true).setIfInBounds p true) ((a.put (some dc) v).put (some dp) (vp q)) w3) : wpAnyH P .any ops Q S (fuel + 2) listed a w := by
  simp only [Bool.and_eq_true, beq_iff_eq] at hst
  obtain ⟨⟨⟨⟨⟨⟨g1, g2⟩, n1⟩, n2⟩, r0⟩, rc⟩, rp⟩ := hst
  have wc : ∀ y, Region.wanted (opAt ops c) y = true := fun y => by simp [Region.wanted, Option.isNone_iff_eq_none.1 n1]
  have wp : ∀ y, Region.wanted (opAt ops p) y = true := fun y => by simp [Region.wanted, Option.isNone_iff_eq_none.1 n2]
  have al : Below w.heap.size w (w.alloc o) := (Below.refl _ _).alloc (Nat.le_refl _) o
  refine wpAnyH_two r0 ?_ ?_
  · refine wpOp_callE f args (R w) (get_opAt g1) (wc _) rc0 (hc w (Below.refl _ _)) (fun e w2 hR => ?_)
    obtain ⟨hb, v, rfl, hX⟩ := hA e w2 hR
    refine ⟨v, rfl, hS w2 hb, wpAnyH_one rc ?_⟩
    rw [hdc]
    refine wpOp_value _ (get_opAt g2) (wp _) (rp1 v w2) ⟨hS _ (hb.trans (((Below.refl _ _).alloc (Nat.le_refl _) o).mono hb.size)), ?_⟩
    rw [hdp]
    exact h v _ _ hX
  · refine wpOp_value _ (get_opAt g2) (wp _) (rp0 w) ⟨hS _ al, wpAnyH_one rp ?_⟩
    rw [hdp]
    refine wpOp_callE f args (R (w.alloc o)) (get_opAt g1) (wc _) (rc1 _ _) (hc _ al) (fun e w3 hR => ?_)
    obtain ⟨hb, v, rfl, hX⟩ := hB e w3 hR
    refine ⟨v, rfl, hS w3 hb, ?_⟩
    rw [hdc, Act.put_comm a _ _ (fun d h1 h2 => n (by cases h1; cases h2; rfl)), Array.setIfInBounds_comm _ _ (Ne.symm ecp)]
    exact h v _ _ hX
theorem NewRows.mono {B B' : Nat} {w : World} {v : Value} {zss : List (List Int)} (h : NewRows B w v zss) (hB : B' ≤ B) : NewRows B' w v zss := by
  obtain ⟨q, vs, h1, h2, h3, h4, h5, h6⟩ := h
  exact ⟨q, vs, h1, Nat.le_trans hB h2, h3, h4, h5, fun i v zs hv hz => ⟨fun F hF => (h6 i v zs hv hz).1 F (fun k hk => by rcases hF k hk with h | h; exact .inl (by omega); exact .inr h), (h6 i v zs hv hz).2⟩⟩
theorem Rws.weaken {F G : List Nat} {w : World} {rv : Value} {zss : List (List Int)} (h : Rws F w rv zss) (hs : ∀ k ∈ G, k ∈ F) : Rws G w rv zss := by
  obtain ⟨vs, h1, h2⟩ := h
  exact ⟨vs, h1, fun i v zs hv hz => ⟨(h2 i v zs hv hz).1.sub hs, (h2 i v zs hv hz).2⟩⟩
def ccl5 (z k : Int) (rv pv : Value) : List Value := [.int .i64 z, .int .i64 k, rv, pv]
def zC5 : List Value := [.int .i64 0, .int .i64 0, .slice none 0 0, .slice none 0 0]
theorem zeroC5 : (Tryd.prog.info? 35).map (·.zero) = some (some (.agg zC5.toArray)) := by kernel_rfl
theorem sizeC5 (z k : Int) (rv pv : Value) : (Tryd.prog.info? 35).map (·.size) = some (ccl5 z k rv pv).length := by kernel_rfl
theorem oneC5 (z k : Int) (a b : Option Addr) (m n x y : Nat) : (ccl5 z k (.slice a m x) (.slice b n y)).toArray.all (·.oneCell') = true := all_oneCell_toArray (fun v hv => by
  simp only [ccl5, List.mem_cons, List.not_mem_nil, or_false] at hv
  rcases hv with rfl | rfl | rfl | rfl <;> rfl)
theorem bytes_slice {w : World} {v : Value} {zs : List Int} (h : BytesIn w v zs) : ∃ a c, v = .slice a zs.length c := by
  obtain ⟨a, c, e, _⟩ := h
  exact ⟨a, c, e⟩
theorem arflush_walk2 {w : World} {A E F : List Nat} {ab d first half gen next : Nat} {stuck : Bool} {recs : List (List Int)} {sz : Nat} {seen dur : List Int} {pend : List Wr} {left : Int} (h : Ar w A (E ++ F) ab d first half gen next stuck recs) (hd : Dk w F d sz seen dur pend left) (hm : pend.length ≤ 1000000) : Calls Tryd.prog 11 #[.pointer (some ⟨ab, 0, none⟩)] w (DkPost F d sz seen (applyK dur pend pend.length) [] left (.int .i64 0) w) := by
  obtain ⟨rv, -, hx⟩ := h
  have c0 := hx.c0
  have HD := Lib.hid hd
  clear hx hd
  go_enter Tryd.func11, Tryd.ntmps11
  go_wp2_with fail
  refine (flush_walk d sz F seen dur pend left _ HD.out hm).mono ?_
  rintro e w1 ⟨rfl, h1⟩
  have H1 := Lib.hid h1
  clear h1
  go_wp2
  go_ret
  exact ⟨rfl, H1.out⟩
set_option maxHeartbeats 8000000 in
theorem alasts_main (size : Int) (v : Value) (cs : List C5) (w : World) (hv : C5sIn w v cs) (hK : KW w) :
    Calls Tryd.prog 3 #[.int .i64 size, v] w fun e w' => e = .returned (.bool true) ∧ Below w.heap.size w w' := by
  obtain ⟨ca, ccap, rfl, hcl, -⟩ := id hv
  have HV := Lib.hid hv
  have HK := Lib.hid hK
  obtain ⟨n, hn⟩ : ∃ n, Hid (cs.length = n) := ⟨_, rfl⟩
  rw [hn.out] at HV hcl ⊢
  obtain ⟨B0, hB0⟩ : ∃ B, Hid (w.heap.size = B) := ⟨_, rfl⟩
  have KB0 : Hid (0 < B0) := by unfold Hid; rw [← hB0.out]; exact hK.lt
  rw [hB0.out]
  clear hv hK
  go_enter Tryd.func3, Tryd.ntmps3
  go_wp2_with fail
  refine (aralive_walk _ HK.out).mono ?_
  rintro e w1 ⟨rfl, hb1⟩
  go_wp2_with fail
  refine (great5_walk _ cs _ (HV.out.below hb1)).mono ?_
  rintro e w2 ⟨gb, rfl, hgb, nd0, rfl⟩
  have HG := Lib.hid hgb
  have hb2 := hb1.trans ((below_drewN w1 nd0).mono hb1.size)
  have BE1 : Hid (Below B0 w (w1.drewN nd0)) := by unfold Hid; rw [← hB0.out]; exact hb2
  have HV1 : Hid (C5sIn (w1.drewN nd0) (.slice ca n ccap) cs) := HV.out.below hb2
  have HK1 : Hid (KW (w1.drewN nd0)) := HK.out.below hb2 HK.out.lt
  generalize w1.drewN nd0 = W1 at *
  clear hgb hb1 hb2
  cases gb with
  | true =>
    go_wp2
    go_ret
    exact ⟨rfl, BE1.out⟩
  | false =>
    by_cases s4 : size < 4
    · go_wp2
      go_ret
      exact ⟨rfl, BE1.out⟩
    · by_cases s40 : 40 < size
      · go_wp2
        go_ret
        exact ⟨rfl, BE1.out⟩
      · obtain ⟨sz, rfl⟩ := Int.eq_ofNat_of_zero_le (show 0 ≤ size by omega)
        have z4 : 4 ≤ sz := by omega
        have z40 : sz ≤ 40 := by omega
        have hgl := HG.out rfl
        rw [hn.out] at hgl
        have n40 : n ≤ 40 := hgl.1
        have HCL := Lib.hid hgl.2
        obtain ⟨B, hB⟩ : ∃ B, Hid (W1.heap.size = B) := ⟨_, rfl⟩
        have KB : Hid (0 < B) := by unfold Hid; rw [← hB.out]; exact HK1.out.lt
        have BB : Hid (B0 ≤ B) := by unfold Hid; have := BE1.out.size; have := hB0.out; have := hB.out; omega
        clear hgl HG
        go_wp2_with fail
        refine (new_yes sz (by omega) (by omega) _).mono ?_
        rintro e w3 ⟨d, F, rfl, hd3, hs3⟩
        have D3 := Lib.hid hd3
        have FG : Hid (∀ k ∈ F, B ≤ k) := fun k hk => by rcases hs3.fresh k hk with h | h; simp at h; rw [← hB.out]; exact h
        have B3 : Hid (Below B W1 w3) := by unfold Hid; rw [← hB.out]; exact hs3.below
        have K3 : Hid (KW w3) := HK1.out.below B3.out KB.out
        have KF : Hid (0 ∉ F) := fun h => by have := FG.out _ h; have := KB.out; omega
        obtain ⟨zz, hzz⟩ : ∃ zz, Hid (zeros (64 * sz) = zz) := ⟨_, rfl⟩
        rw [hzz.out] at D3
        have ZB : Hid (isBytes zz) := by unfold Hid; rw [← hzz.out]; exact zeros_bytes _
        clear hd3 hs3
        go_wp2_with fail
        refine (begin_walk d sz F zz zz [] (-1) _ [] _ [] (fun k hk => by simp at hk) D3.out (by omega) ZB.out (parts_none_off _ _) (by decide) (by simp) K3.out KF.out (by omega) (by decide)).mono ?_
        intro e w4 hp
        rw [← hzz.out] at hp
        obtain ⟨ab0, rfl, A, F4, seen0, dur0, ha4, hd4, hin4, hs4⟩ := begun_new (by omega) (by omega) (by simp) (by simp) (Nat.zero_le _) hp
        have SB3 : B ≤ w3.heap.size := by have := B3.out.size; have := hB.out; omega
        have MG := hs4.ge FG.out SB3
        have B4 := hs4.blow FG.out SB3 B3.out
        obtain ⟨q0, hq0⟩ : ∃ q, Hid (w4.heap.size = q) := ⟨_, rfl⟩
        clear hp D3 K3 KF ZB hzz
        go_upto_region 11 with (fail)
        refine lin_begin (opsOf Tryd.f3 11) (by kernel_rfl) ?_
        refine lin_newrow 0 33 [] q0 0 (some 54) (by kernel_rfl) (by kernel_rfl) hq0 (by kernel_rfl) ?_
        intro w5 b5 be5 hs5
        refine lin_now 1 (.slice (some ⟨q0, 0, none⟩) 0 0) (some 8) (by kernel_rfl) (by kernel_rfl) (by kernel_rfl) ?_
        refine lin_done 2 (by kernel_rfl) ?_
        have be5' : Below w4.heap.size w4 w5 := by rw [hq0.out]; exact be5
        have L5 : Hid (Ls W1 B d sz 0 ab0 q0 0 0 0 w5) := by
          have hlt : ∀ k ∈ A ++ F4, k < w4.heap.size := fun k hk => by
            rcases List.mem_append.1 hk with h | h
            · exact ha4.lt k h
            · exact hd4.lt k h
          have hqn : q0 ∉ A ++ F4 := fun h => by have := hlt _ h; have := hq0.out; omega
          refine ⟨A, F4, 0, 1, seen0, dur0, [], -1, [], 0, 0, false, ⟨(ha4.more (E := [q0]) (fun k hk => by rw [show k = q0 by simpa using hk]; exact Nat.le_of_eq hq0.out)).below be5', hd4.below be5', hin4, fun _ => rfl, by omega, by simp, ⟨[], ⟨rfl, .inr ⟨q0, 0, #[], rfl, Nat.zero_le _, b5, Nat.le_refl _, by unfold maxLen; omega, rfl, rfl⟩⟩, fun i v zs hv => by simp at hv⟩, hqn, fun k hk => ?_, B4.trans (be5'.mono (by have := B4.size; have := hB.out; omega)), Nat.le_of_eq hB.out.symm⟩⟩
          rcases List.mem_cons.1 hk with rfl | h
          · have := B4.size; have := hB.out; have := hq0.out; omega
          · exact MG k h
        clear b5 be5 be5' hs5 hq0 ha4 hd4 hin4 hs4 MG B4 SB3 FG B3
        generalize hact : Act.put _ (some 8) _ = act
        simp only [Act.put, List.setIfInBounds_toArray, List.set_cons_succ, List.set_cons_zero] at hact
        subst hact
        go_wp2
        go_loopw [10, 7, 8, 9] (fun iv av lv sv wr => ∃ (i ab lg lcap nr sure : Nat), i ≤ n ∧ iv = .int .i64 (i : Int) ∧ av = .pointer (some ⟨ab, 0, none⟩) ∧ lv = .slice (some ⟨lg, 0, none⟩) nr lcap ∧ sv = .int .i64 (sure : Int) ∧ Hid (Ls W1 B d sz i ab lg lcap nr sure wr)) (fun iv _ _ _ _ => n - (intOf iv).toNat)
        case atStart => exact ⟨0, ab0, q0, 0, 0, 0, Nat.zero_le _, rfl, rfl, rfl, rfl, L5⟩
        case round =>
          obtain ⟨i, ab, lg, lcap, nr, sure, hi, rfl, rfl, rfl, rfl, hls⟩ := hrel
          clear L5
          by_cases hlt : i < n
          · have r1 : (i : Int) < (n : Int) := by omega
            obtain ⟨A1, F1, first, g, seen, dur, pend, left, all, tp, m0, stuck, hlx⟩ := hls.out
            obtain ⟨ca', ccap', hce, -, hcq⟩ := id HV1.out
            rw [hn.out] at hce hcq
            obtain ⟨ec1, -, -⟩ := Value.slice.inj hce
            obtain ⟨qb, qo, eca, hqb, hcat⟩ := hcq (by omega)
            rw [eca] at ec1
            subst ec1
            obtain ⟨c, hck⟩ : ∃ c, cs[i]? = some c := ⟨_, List.getElem?_eq_getElem (by rw [hn.out]; exact hlt)⟩
            have hca := hcat i c hck
            have hcm := HCL.out c (List.mem_of_getElem? hck)
            obtain ⟨rv, hrv1, hrv2, hrv3⟩ := hca.rec'
            obtain ⟨pv, hpv1, hpv2, hpv3⟩ := hca.picks
            obtain ⟨ra, rcp, erv⟩ := bytes_slice hrv2
            obtain ⟨pa, pcp, epv⟩ := bytes_slice hpv2
            obtain ⟨rec, hrec⟩ : ∃ r, Hid (c.rec' = r) := ⟨_, rfl⟩
            obtain ⟨picks, hpk⟩ : ∃ r, Hid (c.picks = r) := ⟨_, rfl⟩
            rw [hrec.out] at hrv2 erv hcm
            rw [hpk.out] at hpv2 epv hcm
            obtain ⟨rn, hrn⟩ : ∃ r, Hid (rec.length = r) := ⟨_, rfl⟩
            obtain ⟨pn, hpn⟩ : ∃ r, Hid (picks.length = r) := ⟨_, rfl⟩
            rw [hrn.out] at erv
            rw [hpn.out] at epv
            subst erv
            subst epv
            have RB := Lib.hid hrv2
            have RN := Lib.hid hrv3
            have PB := Lib.hid hpv2
            have PN := Lib.hid hpv3
            have RBY : Hid (isBytes rec) := by unfold Hid; rw [← hrec.out]; exact hca.rbytes
            have PBY : Hid (isBytes picks) := by unfold Hid; rw [← hpk.out]; exact hca.pbytes
            have R3 : rn ≤ 3000 := by rw [← hrn.out]; exact hcm.1
            have P3 : pn ≤ 3000 := by rw [← hpn.out]; exact hcm.2
            obtain ⟨z, hz⟩ : ∃ z, Hid (c.what = z) := ⟨_, rfl⟩
            obtain ⟨kk, hkk⟩ : ∃ z, Hid (c.n = z) := ⟨_, rfl⟩
            have kmax : kk ≤ 9223372036854775807 := by rw [← hkk.out]; have h := hca.wfn; simp [Lit.wf, IntKind.min, IntKind.max, IntKind.signed, IntKind.bits] at h; omega
            have hqw : qb < wr.heap.size := Nat.lt_of_lt_of_le hqb hlx.be.size
            have CR : Hid (wr.rangeAt qb (qo + 4 * i) (ccl5 z kk (.slice ra rn rcp) (.slice pa pn pcp))) := fun j v hv => by
              have kc : ∀ o', wr.cell? ⟨qb, o', none⟩ = W1.cell? ⟨qb, o', none⟩ := fun o' => hlx.be.cell (p := ⟨qb, o', none⟩) (by rw [← hB.out]; exact hqb)
              rw [kc]
              match j with
              | 0 => rw [Nat.add_zero, hca.what, hz.out]; exact hv
              | 1 => rw [hca.n, hkk.out]; exact hv
              | 2 => rw [hrv1]; exact hv
              | 3 => rw [hpv1]; exact hv
              | j + 4 => simp [ccl5] at hv
            obtain ⟨cq, hcq2⟩ : ∃ q, Hid (wr.heap.size = q) := ⟨_, rfl⟩
            have LX := Lib.hid hlx
            clear hlx hls hca hcat hck hcm hrv1 hrv2 hrv3 hpv1 hpv2 hpv3 hce hcq eca hqb
            go_upto_region 16 with (fail)
            refine lin_begin (opsOf Tryd.f3 16) (by kernel_rfl) ?_
            refine lin_now 0 (.slice (some ⟨qb, qo, none⟩) n ccap) (some 61) (by kernel_rfl) (by kernel_rfl) (by kernel_rfl) ?_
            refine lin_now 1 (.int .i64 (i : Int)) (some 62) (by kernel_rfl) (by kernel_rfl) (by kernel_rfl) ?_
            refine lin_now 2 (.pointer (some ⟨qb, qo + 4 * i, none⟩)) (some 63) (by kernel_rfl) (by kernel_rfl) (exec_indexAt 22 (.tmp 61) (.tmp 62) (by kernel_rfl) _ _ _ (by kernel_rfl) (by kernel_rfl) (run_at_call5 qb qo n ccap i hlt _)) ?_
            refine lin_now 3 (.agg (ccl5 z kk (.slice ra rn rcp) (.slice pa pn pcp)).toArray) (some 64) (by kernel_rfl) (by kernel_rfl) (exec_load_mid 35 (.tmp 63) (by kernel_rfl) qb (qo + 4 * i) (by kernel_rfl) _ _ CR.out Tryd.underlying35 rfl (sizeC5 _ _ _ _)) ?_
            refine lin_alloc 4 35 (zC5) (cq) (some 11) (by kernel_rfl) (by kernel_rfl) (by kernel_rfl) zeroC5 hcq2 ?_
            intro w6 b6 be6 hs6
            refine lin_put 5 35 (.tmp 11) (.tmp 64) cq _ zC5 (ccl5 z kk (.slice ra rn rcp) (.slice pa pn pcp)) (by kernel_rfl) (by kernel_rfl) (by kernel_rfl) (by kernel_rfl) (by kernel_rfl) b6 rfl (sizeC5 _ _ _ _) (oneC5 _ _ _ _ _ _ _ _) ?_
            intro w7 b7 u7
            refine lin_done 6 (by kernel_rfl) ?_
            have BB7 : Below wr.heap.size wr w7 := u7.below (by rw [hcq2.out]; exact be6) (by rw [hcq2.out]; exact Nat.le_refl _) be6.size
            have L7 := Lib.hid (LX.out.below BB7)
            have C7 := Lib.hid b7
            have CO : Hid (cq ∉ lg :: (A1 ++ F1)) := fun hc => by
              rcases List.mem_cons.1 hc with h | h
              · have := LX.out.lgl.1; have := hcq2.out; omega
              · have := LX.out.m _ h; have := hcq2.out; omega
            have CG : Hid (B ≤ cq) := by unfold Hid; rw [← hcq2.out]; exact LX.out.sb
            clear b6 be6 hs6 b7 u7 BB7 LX CR hcq2
            generalize hact : Act.put _ none undef = act
            simp only [Act.put, List.setIfInBounds_toArray, List.set_cons_succ, List.set_cons_zero] at hact
            subst hact
            have K7 := Lib.hid (L7.out.kw HK1.out KB.out)
            have RO : Hid (∀ G W, (∀ k ∈ G, B ≤ k) → Below B W1 W → BytesOff G W (.slice ra rn rcp) rec) := fun G W hG hW => RB.out.off (by rw [hB.out]; exact hW) (by rw [hB.out]; exact hG)
            have c0 := C7.out.cell (j := 0) (v := .int .i64 z) rfl
            by_cases hz0 : z = 0
            · subst hz0
              go_upto_region 19 with (fail)
              refine lin_begin (opsOf Tryd.f3 19) (by kernel_rfl) ?_
              refine lin_now 0 (.pointer (some ⟨ab, 0, none⟩)) (some 69) (by kernel_rfl) (by kernel_rfl) (by kernel_rfl) ?_
              refine lin_now 1 (.pointer (some ⟨cq, 2, none⟩)) (some 70) (by kernel_rfl) (by kernel_rfl) (by kernel_rfl) ?_
              refine lin_now 2 (.slice ra rn rcp) (some 71) (by kernel_rfl) (by kernel_rfl) (exec_load_cell 33 (.tmp 70) (by kernel_rfl) cq 2 (by kernel_rfl) _ (C7.out.cell rfl) _ Tryd.underlying33 rfl) ?_
              have U7 : BytesOff (A1 ++ ([lg] ++ F1)) w7 (.slice ra rn rcp) rec := RO.out _ _ (fun k hk => L7.out.ge k (by simp only [List.mem_append, List.mem_cons, List.not_mem_nil, or_false] at hk ⊢; rcases hk with h | h | h; exact .inr (.inl h); exact .inl h; exact .inr (.inr h))) L7.out.be
              have n20 := L7.out.n20
              have hinv := L7.out.iv
              by_cases hlong : 2000 < rn
              · refine lin_call 3 9 #[.pointer (some ⟨ab, 0, none⟩), .slice ra rn rcp] (some 72) _ (by kernel_rfl) (by kernel_rfl) (by kernel_rfl) (add_long L7.out.ar ra rn rcp hlong) ?_
                rintro e w8 ⟨rfl, hb8⟩
                refine ⟨_, rfl, ?_⟩
                refine lin_now 4 (.bool false) (some 73) (by kernel_rfl) (by kernel_rfl) (by kernel_rfl) ?_
                refine lin_done 5 (by kernel_rfl) ?_
                have HLS : Hid (Ls W1 B d sz (i + 1) ab lg lcap nr sure w8) := ((L7.out.below hb8).next (by omega)).ls
                clear hb8 U7 hinv L7 C7 c0
                generalize hact : Act.put _ (some 73) _ = act
                simp only [Act.put, List.setIfInBounds_toArray, List.set_cons_succ, List.set_cons_zero] at hact
                subst hact
                obtain ⟨A8, F8, first8, g8, seen8, dur8, pend8, left8, all8, tp8, m08, stuck8, hl8⟩ := HLS.out
                have L8 := Lib.hid hl8
                have NL8 := Lib.hid hl8.nl
                clear hl8
                go_upto_region 48 with (fail)
                refine lin_begin (opsOf Tryd.f3 48) (by kernel_rfl) ?_
                refine lin_now 0 (.pointer (some ⟨ab, 0, none⟩)) (some 149) (by kernel_rfl) (by kernel_rfl) (by kernel_rfl) ?_
                refine lin_call 1 12 #[.pointer (some ⟨ab, 0, none⟩)] (some 150) _ (by kernel_rfl) (by kernel_rfl) (by kernel_rfl) (records_walk L8.out.ar (by rw [NL8.out]; have := L8.out.n20; omega)) ?_
                rintro e w9 ⟨lv9, rfl, hnr9, hb9⟩
                obtain ⟨q9, elv9⟩ := hnr9.slice
                rw [NL8.out] at elv9
                subst elv9
                refine ⟨_, rfl, ?_⟩
                refine lin_now 2 (.slice (some ⟨lg, 0, none⟩) nr lcap) (some 151) (by kernel_rfl) (by kernel_rfl) (by kernel_rfl) ?_
                have P9 : PartsIn w9 (.slice (some ⟨lg, 0, none⟩) nr lcap) (all8.take nr) := (L8.out.below hb9).parts.in
                have Q9 : PartsIn w9 (.slice (some ⟨q9, 0, none⟩) nr nr) (all8.take nr) := ((hnr9.rws (F := []) (fun k hk => by simp at hk)).parts (fun zs hz => by have := L8.out.iv.sh zs (List.mem_of_mem_take hz); omega) (by rw [NL8.out]; have := L8.out.n20; omega) (G := []) (fun k hk => by simp at hk) (fun g _ => by simp)).in
                refine lin_call 3 17 #[.slice (some ⟨q9, 0, none⟩) nr nr, .slice (some ⟨lg, 0, none⟩) nr lcap] (some 152) _ (by kernel_rfl) (by kernel_rfl) (by kernel_rfl) (asame_walk _ _ _ _ _ Q9 P9) ?_
                rintro e w10 ⟨rfl, nd9, rfl⟩
                refine ⟨_, rfl, ?_⟩
                rw [decide_eq_true rfl]
                refine lin_now 4 (.bool false) (some 153) (by kernel_rfl) (by kernel_rfl) (by kernel_rfl) ?_
                refine lin_done 5 (by kernel_rfl) ?_
                have L10 : Hid (Ls W1 B d sz (i + 1) ab lg lcap nr sure (w9.drewN nd9)) := (L8.out.below (hb9.trans ((below_drewN w9 nd9).mono hb9.size))).ls
                generalize w9.drewN nd9 = W10 at *
                clear hnr9 hb9 P9 Q9 L8 HLS
                generalize hact : Act.put _ (some 153) _ = act
                simp only [Act.put, List.setIfInBounds_toArray, List.set_cons_succ, List.set_cons_zero] at hact
                subst hact
                go_wp2
                go_roundw
                case rel => exact ⟨i + 1, ab, lg, lcap, nr, sure, by omega, by go_num, rfl, rfl, rfl, L10⟩
                case measure => simp [intOf]; omega
              · by_cases hfull : stuck = true ∨ sz / 2 - (1 + cntK all nr) < needN rec.length
                · refine lin_call 3 9 #[.pointer (some ⟨ab, 0, none⟩), .slice ra rn rcp] (some 72) _ (by kernel_rfl) (by kernel_rfl) (by kernel_rfl) (add_full L7.out.ar _ rec U7 RN.out K7.out.1 (by rw [hrn.out]; omega) hinv.g1 (by have := hinv.g2; omega) (by have := hinv.t1; have := hinv.th; omega) (by omega) hfull) ?_
                  rintro e w8 ⟨rfl, hb8⟩
                  refine ⟨_, rfl, ?_⟩
                  refine lin_now 4 (.bool false) (some 73) (by kernel_rfl) (by kernel_rfl) (by kernel_rfl) ?_
                  refine lin_done 5 (by kernel_rfl) ?_
                  have HLS : Hid (Ls W1 B d sz (i + 1) ab lg lcap nr sure w8) := ((L7.out.below hb8).next (by omega)).ls
                  clear hb8 U7 hinv L7 C7 c0
                  generalize hact : Act.put _ (some 73) _ = act
                  simp only [Act.put, List.setIfInBounds_toArray, List.set_cons_succ, List.set_cons_zero] at hact
                  subst hact
                  obtain ⟨A8, F8, first8, g8, seen8, dur8, pend8, left8, all8, tp8, m08, stuck8, hl8⟩ := HLS.out
                  have L8 := Lib.hid hl8
                  have NL8 := Lib.hid hl8.nl
                  clear hl8
                  go_upto_region 48 with (fail)
                  refine lin_begin (opsOf Tryd.f3 48) (by kernel_rfl) ?_
                  refine lin_now 0 (.pointer (some ⟨ab, 0, none⟩)) (some 149) (by kernel_rfl) (by kernel_rfl) (by kernel_rfl) ?_
                  refine lin_call 1 12 #[.pointer (some ⟨ab, 0, none⟩)] (some 150) _ (by kernel_rfl) (by kernel_rfl) (by kernel_rfl) (records_walk L8.out.ar (by rw [NL8.out]; have := L8.out.n20; omega)) ?_
                  rintro e w9 ⟨lv9, rfl, hnr9, hb9⟩
                  obtain ⟨q9, elv9⟩ := hnr9.slice
                  rw [NL8.out] at elv9
                  subst elv9
                  refine ⟨_, rfl, ?_⟩
                  refine lin_now 2 (.slice (some ⟨lg, 0, none⟩) nr lcap) (some 151) (by kernel_rfl) (by kernel_rfl) (by kernel_rfl) ?_
                  have P9 : PartsIn w9 (.slice (some ⟨lg, 0, none⟩) nr lcap) (all8.take nr) := (L8.out.below hb9).parts.in
                  have Q9 : PartsIn w9 (.slice (some ⟨q9, 0, none⟩) nr nr) (all8.take nr) := ((hnr9.rws (F := []) (fun k hk => by simp at hk)).parts (fun zs hz => by have := L8.out.iv.sh zs (List.mem_of_mem_take hz); omega) (by rw [NL8.out]; have := L8.out.n20; omega) (G := []) (fun k hk => by simp at hk) (fun g _ => by simp)).in
                  refine lin_call 3 17 #[.slice (some ⟨q9, 0, none⟩) nr nr, .slice (some ⟨lg, 0, none⟩) nr lcap] (some 152) _ (by kernel_rfl) (by kernel_rfl) (by kernel_rfl) (asame_walk _ _ _ _ _ Q9 P9) ?_
                  rintro e w10 ⟨rfl, nd9, rfl⟩
                  refine ⟨_, rfl, ?_⟩
                  rw [decide_eq_true rfl]
                  refine lin_now 4 (.bool false) (some 153) (by kernel_rfl) (by kernel_rfl) (by kernel_rfl) ?_
                  refine lin_done 5 (by kernel_rfl) ?_
                  have L10 : Hid (Ls W1 B d sz (i + 1) ab lg lcap nr sure (w9.drewN nd9)) := (L8.out.below (hb9.trans ((below_drewN w9 nd9).mono hb9.size))).ls
                  generalize w9.drewN nd9 = W10 at *
                  clear hnr9 hb9 P9 Q9 L8 HLS
                  generalize hact : Act.put _ (some 153) _ = act
                  simp only [Act.put, List.setIfInBounds_toArray, List.set_cons_succ, List.set_cons_zero] at hact
                  subst hact
                  go_wp2
                  go_roundw
                  case rel => exact ⟨i + 1, ab, lg, lcap, nr, sure, by omega, by go_num, rfl, rfl, rfl, L10⟩
                  case measure => simp [intOf]; omega
                · obtain rfl : stuck = false := by cases stuck with | false => rfl | true => exact absurd (.inl rfl) hfull
                  have hfit : needN rec.length ≤ sz / 2 - (1 + cntK all nr) := by omega
                  have hhalf := hinv.half
                  have U8 : BytesOff (A1 ++ F1) w7 (.slice ra rn rcp) rec := U7.sub (fun k hk => by simp only [List.mem_append] at hk ⊢; rcases hk with h | h; exact .inl h; exact .inr (.inr h))
                  have hlm : leftK left 0 = leftK left 0 := rfl
                  by_cases hdone : doneN left (needN rec.length) < needN rec.length
                  · refine lin_call 3 9 #[.pointer (some ⟨ab, 0, none⟩), .slice ra rn rcp] (some 72) _ (by kernel_rfl) (by kernel_rfl) (by kernel_rfl) (add_stop [lg] L7.out.ar _ rec U8 RN.out K7.out.1 (by rw [hrn.out]; omega) hinv.g1 (by have := hinv.g2; omega) (by have := hinv.t1; have := hinv.th; omega) (by omega) hfit sz seen dur pend left L7.out.dk hhalf L7.out.lf (by have := L7.out.pl; omega) hdone) ?_
                    rintro e w8 ⟨rfl, F8, ha8, hd8, hs8⟩
                    refine ⟨_, rfl, ?_⟩
                    refine lin_now 4 (.bool false) (some 73) (by kernel_rfl) (by kernel_rfl) (by kernel_rfl) ?_
                    refine lin_done 5 (by kernel_rfl) ?_
                    have HLS : Hid (Ls W1 B d sz (i + 1) ab lg lcap nr sure w8) := L7.out.stopped (by omega) (by rw [hrn.out]; omega) RBY.out hfit hdone ha8 hd8 (by have := L7.out.lf; unfold leftK; split <;> omega) hs8
                    clear ha8 hd8 hs8 U7 U8 hinv L7 C7 c0 hlm
                    generalize hact : Act.put _ (some 73) _ = act
                    simp only [Act.put, List.setIfInBounds_toArray, List.set_cons_succ, List.set_cons_zero] at hact
                    subst hact
                    obtain ⟨A8, F8, first8, g8, seen8, dur8, pend8, left8, all8, tp8, m08, stuck8, hl8⟩ := HLS.out
                    have L8 := Lib.hid hl8
                    have NL8 := Lib.hid hl8.nl
                    clear hl8
                    go_upto_region 48 with (fail)
                    refine lin_begin (opsOf Tryd.f3 48) (by kernel_rfl) ?_
                    refine lin_now 0 (.pointer (some ⟨ab, 0, none⟩)) (some 149) (by kernel_rfl) (by kernel_rfl) (by kernel_rfl) ?_
                    refine lin_call 1 12 #[.pointer (some ⟨ab, 0, none⟩)] (some 150) _ (by kernel_rfl) (by kernel_rfl) (by kernel_rfl) (records_walk L8.out.ar (by rw [NL8.out]; have := L8.out.n20; omega)) ?_
                    rintro e w9 ⟨lv9, rfl, hnr9, hb9⟩
                    obtain ⟨q9, elv9⟩ := hnr9.slice
                    rw [NL8.out] at elv9
                    subst elv9
                    refine ⟨_, rfl, ?_⟩
                    refine lin_now 2 (.slice (some ⟨lg, 0, none⟩) nr lcap) (some 151) (by kernel_rfl) (by kernel_rfl) (by kernel_rfl) ?_
                    have P9 : PartsIn w9 (.slice (some ⟨lg, 0, none⟩) nr lcap) (all8.take nr) := (L8.out.below hb9).parts.in
                    have Q9 : PartsIn w9 (.slice (some ⟨q9, 0, none⟩) nr nr) (all8.take nr) := ((hnr9.rws (F := []) (fun k hk => by simp at hk)).parts (fun zs hz => by have := L8.out.iv.sh zs (List.mem_of_mem_take hz); omega) (by rw [NL8.out]; have := L8.out.n20; omega) (G := []) (fun k hk => by simp at hk) (fun g _ => by simp)).in
                    refine lin_call 3 17 #[.slice (some ⟨q9, 0, none⟩) nr nr, .slice (some ⟨lg, 0, none⟩) nr lcap] (some 152) _ (by kernel_rfl) (by kernel_rfl) (by kernel_rfl) (asame_walk _ _ _ _ _ Q9 P9) ?_
                    rintro e w10 ⟨rfl, nd9, rfl⟩
                    refine ⟨_, rfl, ?_⟩
                    rw [decide_eq_true rfl]
                    refine lin_now 4 (.bool false) (some 153) (by kernel_rfl) (by kernel_rfl) (by kernel_rfl) ?_
                    refine lin_done 5 (by kernel_rfl) ?_
                    have L10 : Hid (Ls W1 B d sz (i + 1) ab lg lcap nr sure (w9.drewN nd9)) := (L8.out.below (hb9.trans ((below_drewN w9 nd9).mono hb9.size))).ls
                    generalize w9.drewN nd9 = W10 at *
                    clear hnr9 hb9 P9 Q9 L8 HLS
                    generalize hact : Act.put _ (some 153) _ = act
                    simp only [Act.put, List.setIfInBounds_toArray, List.set_cons_succ, List.set_cons_zero] at hact
                    subst hact
                    go_wp2
                    go_roundw
                    case rel => exact ⟨i + 1, ab, lg, lcap, nr, sure, by omega, by go_num, rfl, rfl, rfl, L10⟩
                    case measure => simp [intOf]; omega
                  · have hdn : doneN left (needN rec.length) = needN rec.length := by have := doneN_le left (needN rec.length); omega
                    refine lin_call 3 9 #[.pointer (some ⟨ab, 0, none⟩), .slice ra rn rcp] (some 72) _ (by kernel_rfl) (by kernel_rfl) (by kernel_rfl) (add_ok [lg] L7.out.ar (fun k hk => by rw [show k = lg by simpa using hk]; exact L7.out.lgl.1) _ rec U8 RN.out K7.out.1 (by rw [hrn.out]; omega) hinv.g1 (by have := hinv.g2; omega) (by have := hinv.t1; have := hinv.th; omega) (by omega) hfit sz seen dur pend left L7.out.dk hhalf L7.out.lf (by have := L7.out.pl; omega) hdn (by rw [L7.out.nl]; omega)) ?_
                    rintro e w8 ⟨rfl, A8, F8, ha8, hd8, hs8⟩
                    refine ⟨_, rfl, ?_⟩
                    refine lin_now 4 (.bool true) (some 73) (by kernel_rfl) (by kernel_rfl) (by kernel_rfl) ?_
                    refine lin_done 5 (by kernel_rfl) ?_
                    have HA8 := Lib.hid ha8
                    have HD8 := Lib.hid hd8
                    have HS8 := Lib.hid hs8
                    obtain ⟨m1, m2, m3, m4, -⟩ := L7.out.move (ab' := ab) hs8
                    have M1 := Lib.hid m1
                    have M2 := Lib.hid m2
                    have M3 := Lib.hid m3
                    have M4 := Lib.hid m4
                    have C8 : Hid (Blk w8 cq 35 (ccl5 0 kk (.slice ra rn rcp) (.slice pa pn pcp))) := hs8.blk C7.out (fun h => CO.out (List.mem_cons_of_mem _ h))
                    have NLH := Lib.hid L7.out.nl
                    have HFT := Lib.hid hfit
                    have MLT : Hid (∀ k ∈ A8 ++ F8, k < w8.heap.size) := fun k hk => by
                      rcases List.mem_append.1 hk with h | h
                      · exact ha8.lt k h
                      · exact hd8.lt k h
                    have N20 : Hid (nr + 1 ≤ 20) := by unfold Hid; have := L7.out.n20; omega
                    clear ha8 hd8 hs8 m1 m2 m3 m4 U7 U8 hinv C7 c0 hlm hhalf n20 hfit hfull hdone hdn
                    generalize hact : Act.put _ (some 73) _ = act
                    simp only [Act.put, List.setIfInBounds_toArray, List.set_cons_succ, List.set_cons_zero] at hact
                    subst hact
                    obtain ⟨vs, hown, hvb⟩ := M1.out
                    rw [NLH.out] at hown
                    have OW := Lib.hid hown
                    have VB := Lib.hid hvb
                    obtain ⟨i0, hi0, hz0', hz1', hz2'⟩ := info_parts infoBytes3
                    have HI := Lib.hid hi0
                    have HZ0 := Lib.hid hz0'
                    have HZ1 := Lib.hid hz1'
                    have HZ2 := Lib.hid hz2'
                    have RI8 : Hid (BytesIn w8 (.slice ra rn rcp) rec) := (RO.out [] _ (fun k hk => by simp at hk) M4.out).in
                    have n20 := N20.out
                    clear hown hvb hi0 hz0' hz1' hz2'
                    go_upto_region 20 with (fail)
                    refine lin_begin (opsOf Tryd.f3 20) (by kernel_rfl) ?_
                    refine lin_now 0 (.slice (some ⟨lg, 0, none⟩) nr lcap) (some 74) (by kernel_rfl) (by kernel_rfl) (by kernel_rfl) ?_
                    refine lin_now 1 (.pointer (some ⟨cq, 2, none⟩)) (some 75) (by kernel_rfl) (by kernel_rfl) (by kernel_rfl) ?_
                    refine lin_now 2 (.slice ra rn rcp) (some 76) (by kernel_rfl) (by kernel_rfl) (exec_load_cell 33 (.tmp 75) (by kernel_rfl) cq 2 (by kernel_rfl) _ (C8.out.cell rfl) _ Tryd.underlying33 rfl) ?_
                    refine lin_call 3 10 #[.slice ra rn rcp] (some 77) _ (by kernel_rfl) (by kernel_rfl) (by kernel_rfl) (copyb_walk _ rec _ RI8.out RN.out (by rw [hrn.out]; omega)) ?_
                    rintro e w9 ⟨cv, rfl, ho9, hb9⟩
                    refine ⟨_, rfl, ?_⟩
                    obtain ⟨cva, cvc, ecv, -⟩ := owns_bytes ho9
                    rw [hrn.out] at ecv
                    subst ecv
                    obtain ⟨Q9, hQ9⟩ : ∃ q, Hid (w9.heap.size = q) := ⟨_, rfl⟩
                    refine lin_newrow 4 33 [.slice cva rn cvc] Q9 1 (some 78) (by kernel_rfl) (by kernel_rfl) hQ9 (exec_of (Instr.buildSlice 32 1 #[(0, .slice cva rn cvc)]) _ (by kernel_rfl) (run_build_row _ _ _ _)) ?_
                    intro w10 b10 be10 hs10
                    have be10' : Below w9.heap.size w9 w10 := by rw [hQ9.out]; exact be10
                    have B10 : Below w8.heap.size w8 w10 := hb9.trans (be10'.mono hb9.size)
                    have OW10 : w10.ownsRow 0 33 1 (.slice (some ⟨lg, 0, none⟩) nr lcap) nr vs := own_step OW.out (Step.of_below (F := []) B10 (Nat.le_refl _)) (fun g _ => by simp)
                    obtain ⟨gg, cap, W11, hr11, ho11, hg11, hat11, hlt11⟩ := run_append_lies (P := Tryd.prog) w10 32 32 0 33 i0 _ 1 24 Tryd.underlying32 HI.out HZ0.out HZ1.out HZ2.out rfl (by decide) _ nr vs OW10 ⟨Q9, 0, none⟩ 1 1 [.slice cva rn cvc] rfl (fun j u hj => by rw [Addr.add_mid]; exact b10.whole j u hj) (fun u hu => by obtain rfl : u = .slice cva rn cvc := (by simpa using hu); rfl) (by omega) (by unfold maxLen; omega) (by omega) (Nat.zero_le _) _ rfl
                    refine lin_value 5 (.slice (some ⟨gg, 0, none⟩) (nr + 1) cap) (some 79) W11 (by kernel_rfl) (by kernel_rfl) (exec_of (Builtin.append_ #[32, 32] 32 #[.slice (some ⟨lg, 0, none⟩) nr lcap, .slice (some ⟨Q9, 0, none⟩) 1 1]) _ (by kernel_rfl) hr11) ?_
                    refine lin_now 6 (.slice (some ⟨gg, 0, none⟩) (nr + 1) cap) (some 8) (by kernel_rfl) (by kernel_rfl) (by kernel_rfl) ?_
                    refine lin_done 7 (by kernel_rfl) ?_
                    have hsn := M1.out.snoc M2.out MLT.out B10 NLH.out (cv := .slice cva rn cvc) (rec := rec) (fun G hG => ((owns_off (F := G.filter (· < w8.heap.size)) ho9 (fun k hk => by simpa using (List.mem_filter.1 hk).2)).step (Step.of_below be10' (Nat.le_refl _))).more (fun k hk => by
                      rcases hG k hk with h | h
                      · refine .inl (List.mem_filter.2 ⟨hk, ?_⟩)
                        have hkl : k < w8.heap.size := by
                          rcases List.mem_cons.1 h with e | e
                          · rw [e]; exact (OW.out.lt lg rfl).2
                          · exact MLT.out k e
                        simpa using hkl
                      · exact .inr h)) (owns_nilok ho9) OW.out VB.out ho11 hg11 (by rcases hat11 with h | h; exact .inl (by simpa [Value.ownBlock] using h); exact .inr h)
                    have HLS : Hid (Ls W1 B d sz (i + 1) ab gg cap (nr + 1) sure W11) := L7.out.added (by omega) (by rw [hrn.out]; omega) RBY.out HFT.out HA8.out HD8.out (by have := L7.out.lf; unfold leftK; split <;> omega) HS8.out hsn.1 hsn.2.1 hsn.2.2
                    clear hsn hr11 ho11 hg11 hat11 hlt11 OW10 B10 be10 be10' b10 hs10 ho9 hb9 L7 OW VB M1 M2 M3 M4 C8 HA8 HD8 HS8 RI8 MLT NLH
                    generalize hact : Act.put _ (some 8) _ = act
                    simp only [Act.put, List.setIfInBounds_toArray, List.set_cons_succ, List.set_cons_zero] at hact
                    subst hact
                    obtain ⟨A8, F8, first8, g8, seen8, dur8, pend8, left8, all8, tp8, m08, stuck8, hl8⟩ := HLS.out
                    have L8 := Lib.hid hl8
                    have NL8 := Lib.hid hl8.nl
                    clear hl8
                    go_upto_region 48 with (fail)
                    refine lin_begin (opsOf Tryd.f3 48) (by kernel_rfl) ?_
                    refine lin_now 0 (.pointer (some ⟨ab, 0, none⟩)) (some 149) (by kernel_rfl) (by kernel_rfl) (by kernel_rfl) ?_
                    refine lin_call 1 12 #[.pointer (some ⟨ab, 0, none⟩)] (some 150) _ (by kernel_rfl) (by kernel_rfl) (by kernel_rfl) (records_walk L8.out.ar (by rw [NL8.out]; have := L8.out.n20; omega)) ?_
                    rintro e w9 ⟨lv9, rfl, hnr9, hb9⟩
                    obtain ⟨q9, elv9⟩ := hnr9.slice
                    rw [NL8.out] at elv9
                    subst elv9
                    refine ⟨_, rfl, ?_⟩
                    refine lin_now 2 (.slice (some ⟨gg, 0, none⟩) (nr + 1) cap) (some 151) (by kernel_rfl) (by kernel_rfl) (by kernel_rfl) ?_
                    have P9 : PartsIn w9 (.slice (some ⟨gg, 0, none⟩) (nr + 1) cap) (all8.take (nr + 1)) := (L8.out.below hb9).parts.in
                    have Q9 : PartsIn w9 (.slice (some ⟨q9, 0, none⟩) (nr + 1) (nr + 1)) (all8.take (nr + 1)) := ((hnr9.rws (F := []) (fun k hk => by simp at hk)).parts (fun zs hz => by have := L8.out.iv.sh zs (List.mem_of_mem_take hz); omega) (by rw [NL8.out]; have := L8.out.n20; omega) (G := []) (fun k hk => by simp at hk) (fun g _ => by simp)).in
                    refine lin_call 3 17 #[.slice (some ⟨q9, 0, none⟩) (nr + 1) (nr + 1), .slice (some ⟨gg, 0, none⟩) (nr + 1) cap] (some 152) _ (by kernel_rfl) (by kernel_rfl) (by kernel_rfl) (asame_walk _ _ _ _ _ Q9 P9) ?_
                    rintro e w10 ⟨rfl, nd9, rfl⟩
                    refine ⟨_, rfl, ?_⟩
                    rw [decide_eq_true rfl]
                    refine lin_now 4 (.bool false) (some 153) (by kernel_rfl) (by kernel_rfl) (by kernel_rfl) ?_
                    refine lin_done 5 (by kernel_rfl) ?_
                    have L10 : Hid (Ls W1 B d sz (i + 1) ab gg cap (nr + 1) sure (w9.drewN nd9)) := (L8.out.below (hb9.trans ((below_drewN w9 nd9).mono hb9.size))).ls
                    generalize w9.drewN nd9 = W10 at *
                    clear hnr9 hb9 P9 Q9 L8 HLS
                    generalize hact : Act.put _ (some 153) _ = act
                    simp only [Act.put, List.setIfInBounds_toArray, List.set_cons_succ, List.set_cons_zero] at hact
                    subst hact
                    go_wp2
                    go_roundw
                    case rel => exact ⟨i + 1, ab, gg, cap, (nr + 1), sure, by omega, by go_num, rfl, rfl, rfl, L10⟩
                    case measure => simp [intOf]; omega
            · have e0 : (z == 0) = false := by simpa using hz0
              clear hz0
              by_cases hz1 : z = 1
              · subst hz1
                go_upto_region 22 with (fail)
                refine lin_begin (opsOf Tryd.f3 22) (by kernel_rfl) ?_
                refine lin_now 0 (.pointer (some ⟨ab, 0, none⟩)) (some 82) (by kernel_rfl) (by kernel_rfl) (by kernel_rfl) ?_
                refine lin_call 1 11 #[.pointer (some ⟨ab, 0, none⟩)] (some 83) _ (by kernel_rfl) (by kernel_rfl) (by kernel_rfl) (arflush_walk2 L7.out.ar L7.out.dk (by have := L7.out.pl; omega)) ?_
                rintro e w8 ⟨rfl, F8, hd8, hs8⟩
                refine ⟨_, rfl, ?_⟩
                refine lin_now 2 (.bool false) (some 84) (by kernel_rfl) (by kernel_rfl) (by kernel_rfl) ?_
                refine lin_done 3 (by kernel_rfl) ?_
                have HLS : Hid (Ls W1 B d sz (i + 1) ab lg lcap nr nr w8) := L7.out.flushed (by omega) hd8 hs8
                clear hd8 hs8 L7 C7 c0
                generalize hact : Act.put _ (some 84) _ = act
                simp only [Act.put, List.setIfInBounds_toArray, List.set_cons_succ, List.set_cons_zero] at hact
                subst hact
                obtain ⟨A8, F8, first8, g8, seen8, dur8, pend8, left8, all8, tp8, m08, stuck8, hl8⟩ := HLS.out
                have L8 := Lib.hid hl8
                have NL8 := Lib.hid hl8.nl
                clear hl8
                go_upto_region 48 with (fail)
                refine lin_begin (opsOf Tryd.f3 48) (by kernel_rfl) ?_
                refine lin_now 0 (.pointer (some ⟨ab, 0, none⟩)) (some 149) (by kernel_rfl) (by kernel_rfl) (by kernel_rfl) ?_
                refine lin_call 1 12 #[.pointer (some ⟨ab, 0, none⟩)] (some 150) _ (by kernel_rfl) (by kernel_rfl) (by kernel_rfl) (records_walk L8.out.ar (by rw [NL8.out]; have := L8.out.n20; omega)) ?_
                rintro e w9 ⟨lv9, rfl, hnr9, hb9⟩
                obtain ⟨q9, elv9⟩ := hnr9.slice
                rw [NL8.out] at elv9
                subst elv9
                refine ⟨_, rfl, ?_⟩
                refine lin_now 2 (.slice (some ⟨lg, 0, none⟩) nr lcap) (some 151) (by kernel_rfl) (by kernel_rfl) (by kernel_rfl) ?_
                have P9 : PartsIn w9 (.slice (some ⟨lg, 0, none⟩) nr lcap) (all8.take nr) := (L8.out.below hb9).parts.in
                have Q9 : PartsIn w9 (.slice (some ⟨q9, 0, none⟩) nr nr) (all8.take nr) := ((hnr9.rws (F := []) (fun k hk => by simp at hk)).parts (fun zs hz => by have := L8.out.iv.sh zs (List.mem_of_mem_take hz); omega) (by rw [NL8.out]; have := L8.out.n20; omega) (G := []) (fun k hk => by simp at hk) (fun g _ => by simp)).in
                refine lin_call 3 17 #[.slice (some ⟨q9, 0, none⟩) nr nr, .slice (some ⟨lg, 0, none⟩) nr lcap] (some 152) _ (by kernel_rfl) (by kernel_rfl) (by kernel_rfl) (asame_walk _ _ _ _ _ Q9 P9) ?_
                rintro e w10 ⟨rfl, nd9, rfl⟩
                refine ⟨_, rfl, ?_⟩
                rw [decide_eq_true rfl]
                refine lin_now 4 (.bool false) (some 153) (by kernel_rfl) (by kernel_rfl) (by kernel_rfl) ?_
                refine lin_done 5 (by kernel_rfl) ?_
                have L10 : Hid (Ls W1 B d sz (i + 1) ab lg lcap nr nr (w9.drewN nd9)) := (L8.out.below (hb9.trans ((below_drewN w9 nd9).mono hb9.size))).ls
                generalize w9.drewN nd9 = W10 at *
                clear hnr9 hb9 P9 Q9 L8 HLS
                generalize hact : Act.put _ (some 153) _ = act
                simp only [Act.put, List.setIfInBounds_toArray, List.set_cons_succ, List.set_cons_zero] at hact
                subst hact
                go_wp2
                go_roundw
                case rel => exact ⟨i + 1, ab, lg, lcap, nr, nr, by omega, by go_num, rfl, rfl, rfl, L10⟩
                case measure => simp [intOf]; omega
              · have e1 : (z == 1) = false := by simpa using hz1
                clear hz1
                by_cases hz3 : z = 3
                · subst hz3
                  go_upto_region 33 with (fail)
                  refine lin_begin (opsOf Tryd.f3 33) (by kernel_rfl) ?_
                  refine lin_now 0 (.pointer (some ⟨d, 0, none⟩)) (some 109) (by kernel_rfl) (by kernel_rfl) (by kernel_rfl) ?_
                  refine lin_now 1 (.pointer (some ⟨cq, 1, none⟩)) (some 110) (by kernel_rfl) (by kernel_rfl) (by kernel_rfl) ?_
                  refine lin_now 2 (.int .i64 kk) (some 111) (by kernel_rfl) (by kernel_rfl) (exec_load_cell 3 (.tmp 110) (by kernel_rfl) cq 1 (by kernel_rfl) _ (C7.out.cell rfl) _ Tryd.underlying3 rfl) ?_
                  refine lin_call 3 13 #[.pointer (some ⟨d, 0, none⟩), .int .i64 kk] (some 112) _ (by kernel_rfl) (by kernel_rfl) (by kernel_rfl) (limit_walk d sz F1 seen dur pend left kk _ L7.out.dk) ?_
                  rintro e w8 ⟨rfl, F8, hd8, hs8⟩
                  refine ⟨_, rfl, ?_⟩
                  refine lin_done 4 (by kernel_rfl) ?_
                  have HLS : Hid (Ls W1 B d sz (i + 1) ab lg lcap nr sure w8) := L7.out.limited (by omega) kmax hd8 hs8
                  clear hd8 hs8 L7 C7 c0
                  generalize hact : Act.put _ (some 112) _ = act
                  simp only [Act.put, List.setIfInBounds_toArray, List.set_cons_succ, List.set_cons_zero] at hact
                  subst hact
                  obtain ⟨A8, F8, first8, g8, seen8, dur8, pend8, left8, all8, tp8, m08, stuck8, hl8⟩ := HLS.out
                  have L8 := Lib.hid hl8
                  have NL8 := Lib.hid hl8.nl
                  clear hl8
                  go_upto_region 48 with (fail)
                  refine lin_begin (opsOf Tryd.f3 48) (by kernel_rfl) ?_
                  refine lin_now 0 (.pointer (some ⟨ab, 0, none⟩)) (some 149) (by kernel_rfl) (by kernel_rfl) (by kernel_rfl) ?_
                  refine lin_call 1 12 #[.pointer (some ⟨ab, 0, none⟩)] (some 150) _ (by kernel_rfl) (by kernel_rfl) (by kernel_rfl) (records_walk L8.out.ar (by rw [NL8.out]; have := L8.out.n20; omega)) ?_
                  rintro e w9 ⟨lv9, rfl, hnr9, hb9⟩
                  obtain ⟨q9, elv9⟩ := hnr9.slice
                  rw [NL8.out] at elv9
                  subst elv9
                  refine ⟨_, rfl, ?_⟩
                  refine lin_now 2 (.slice (some ⟨lg, 0, none⟩) nr lcap) (some 151) (by kernel_rfl) (by kernel_rfl) (by kernel_rfl) ?_
                  have P9 : PartsIn w9 (.slice (some ⟨lg, 0, none⟩) nr lcap) (all8.take nr) := (L8.out.below hb9).parts.in
                  have Q9 : PartsIn w9 (.slice (some ⟨q9, 0, none⟩) nr nr) (all8.take nr) := ((hnr9.rws (F := []) (fun k hk => by simp at hk)).parts (fun zs hz => by have := L8.out.iv.sh zs (List.mem_of_mem_take hz); omega) (by rw [NL8.out]; have := L8.out.n20; omega) (G := []) (fun k hk => by simp at hk) (fun g _ => by simp)).in
                  refine lin_call 3 17 #[.slice (some ⟨q9, 0, none⟩) nr nr, .slice (some ⟨lg, 0, none⟩) nr lcap] (some 152) _ (by kernel_rfl) (by kernel_rfl) (by kernel_rfl) (asame_walk _ _ _ _ _ Q9 P9) ?_
                  rintro e w10 ⟨rfl, nd9, rfl⟩
                  refine ⟨_, rfl, ?_⟩
                  rw [decide_eq_true rfl]
                  refine lin_now 4 (.bool false) (some 153) (by kernel_rfl) (by kernel_rfl) (by kernel_rfl) ?_
                  refine lin_done 5 (by kernel_rfl) ?_
                  have L10 : Hid (Ls W1 B d sz (i + 1) ab lg lcap nr sure (w9.drewN nd9)) := (L8.out.below (hb9.trans ((below_drewN w9 nd9).mono hb9.size))).ls
                  generalize w9.drewN nd9 = W10 at *
                  clear hnr9 hb9 P9 Q9 L8 HLS
                  generalize hact : Act.put _ (some 153) _ = act
                  simp only [Act.put, List.setIfInBounds_toArray, List.set_cons_succ, List.set_cons_zero] at hact
                  subst hact
                  go_wp2
                  go_roundw
                  case rel => exact ⟨i + 1, ab, lg, lcap, nr, sure, by omega, by go_num, rfl, rfl, rfl, L10⟩
                  case measure => simp [intOf]; omega
                · have e3 : (z == 3) = false := by simpa using hz3
                  clear hz3
                  by_cases hz2 : z = 2
                  · subst hz2
                    go_upto_region 26 with (fail)
                    refine region_begin (opsOf Tryd.f3 26) (fun w' => Blk w' cq 35 (ccl5 2 kk (.slice ra rn rcp) (.slice pa pn pcp))) (by kernel_rfl) (by kernel_rfl) 7 (by kernel_rfl) ?_
                    intro Q' hQN hN
                    obtain ⟨W4, hW4⟩ : ∃ W4, Hid (w7.drew = W4) := ⟨_, rfl⟩
                    rw [hW4.out]
                    have B74 : Below w7.heap.size w7 W4 := by rw [← hW4.out]; exact (Below.refl _ _).drew
                    have L4 := L7.out.below B74
                    have hS : Blk W4 cq 35 (ccl5 2 kk (.slice ra rn rcp) (.slice pa pn pcp)) := C7.out.below B74 C7.out.lt
                    have CQL := hS.lt
                    have NL4 := L4.nl
                    have n20 := L4.n20
                    have ML4 := L4.m
                    refine reg_now 0 (.pointer (some ⟨ab, 0, none⟩)) (some 89) hQN hS (by kernel_rfl) (by kernel_rfl) (fun w => by kernel_rfl) ?_
                    refine reg_now 2 (.pointer (some ⟨cq, 2, none⟩)) (some 91) hQN hS (by kernel_rfl) (by kernel_rfl) (fun w => by kernel_rfl) ?_
                    refine reg_nowIf 3 (.slice ra rn rcp) (some 92) hQN hS (by kernel_rfl) (by kernel_rfl) (fun w' hw => exec_load_cell 33 (.tmp 91) (by kernel_rfl) cq 2 (by kernel_rfl) _ (hw.cell rfl) _ Tryd.underlying33 rfl) ?_
                    refine reg_cp 1 4 90 93 12 #[.pointer (some ⟨ab, 0, none⟩)] (fun w1 => RecsPost (all.take nr) w1) (fun q => .slice (some ⟨q, 0, none⟩) 1 1) (.cells [.slice ra rn rcp].toArray 33)
                      (fun v q w3 => ∃ lq, v = .slice (some ⟨lq, 0, none⟩) nr nr ∧ NewRows W4.heap.size w3 v (all.take nr) ∧ Blk w3 q 33 [.slice ra rn rcp] ∧ Below W4.heap.size W4 w3 ∧ q ≠ lq ∧ W4.heap.size ≤ q)
                      (by kernel_rfl) (by kernel_rfl) (by kernel_rfl) (by decide) (by decide) (by kernel_rfl) (fun v w1 => by kernel_rfl) (fun w1 => exec_of (Instr.buildSlice 32 1 #[(0, .slice ra rn rcp)]) _ (by kernel_rfl) (run_build_row _ _ _ _)) (fun v w1 => exec_of (Instr.buildSlice 32 1 #[(0, .slice ra rn rcp)]) _ (by kernel_rfl) (run_build_row _ _ _ _))
                      (fun w1 hb => records_walk (L4.ar.below hb) (by rw [NL4]; omega)) (fun w1 hb => hS.below hb CQL) ?_ ?_ ?_
                    · rintro e w2 ⟨v, rfl, hnr, hb⟩
                      obtain ⟨lq, elq⟩ := hnr.slice
                      rw [NL4] at elq
                      have al : Below w2.heap.size w2 (w2.alloc (.cells [.slice ra rn rcp].toArray 33)) := (Below.refl _ _).alloc (Nat.le_refl _) _
                      refine ⟨hb, v, rfl, lq, elq, hnr.below al, Blk.new _ _ _, hb.trans (al.mono hb.size), ?_, hb.size⟩
                      have := (hnr.own lq (by rw [elq]; rfl)).2
                      omega
                    · rintro e w3 ⟨v, rfl, hnr, hb⟩
                      obtain ⟨lq, elq⟩ := hnr.slice
                      rw [NL4] at elq
                      have al : Below W4.heap.size W4 (W4.alloc (.cells [.slice ra rn rcp].toArray 33)) := (Below.refl _ _).alloc (Nat.le_refl _) _
                      have hsz : (W4.alloc (.cells [.slice ra rn rcp].toArray 33)).heap.size = W4.heap.size + 1 := by simp
                      rw [hsz] at hnr hb
                      refine ⟨al.trans (hb.mono (by omega)), v, rfl, lq, elq, hnr.mono (by omega), (Blk.new W4 _ _).below hb (by omega), al.trans (hb.mono (by omega)), ?_, Nat.le_refl _⟩
                      have := (hnr.own lq (by rw [elq]; rfl)).1
                      omega
                    rintro v q w3 ⟨lq, rfl, hnr, hbq, hb3, hql, hqg⟩
                    have lqo := hnr.own lq rfl
                    have rws3 : Rws (lq :: (A1 ++ F1)) w3 (.slice (some ⟨lq, 0, none⟩) nr nr) (all.take nr) := hnr.rws (fun k hk => by
                      rcases List.mem_cons.1 hk with h | h
                      · exact .inr (by rw [h]; rfl)
                      · exact .inl (ML4 k h))
                    obtain ⟨vs, hown, hvb⟩ := id rws3
                    rw [NL4] at hown
                    obtain ⟨i0, hi0, hy0, hy1, hy2⟩ := info_parts infoBytes3
                    obtain ⟨gg, cap, W5, hr5, ho5, hg5, hat5, hlt5⟩ := run_append_lies (P := Tryd.prog) w3 32 32 0 33 i0 _ 1 24 Tryd.underlying32 hi0 hy0 hy1 hy2 rfl (by decide) _ nr vs hown ⟨q, 0, none⟩ 1 1 [.slice ra rn rcp] rfl (fun j u hj => by rw [Addr.add_mid]; exact hbq.whole j u hj) (fun u hu => by obtain rfl : u = .slice ra rn rcp := (by simpa using hu); rfl) (by omega) (by unfold maxLen; omega) (by omega) (Nat.zero_le _) _ rfl
                    have B45 : Below W4.heap.size W4 W5 := hb3.grown hg5 hb3.size (fun k hk => by obtain rfl : lq = k := (by simpa [Value.ownBlock] using hk); exact lqo.1)
                    have hS5 := hS.below B45 CQL
                    have L3 := L4.below hb3
                    have hsn := rws3.snoc (fun h => by have := ML4 lq h; omega) (fun k hk => Nat.lt_of_lt_of_le (ML4 k hk) hb3.size) (Below.refl _ w3) NL4 (cv := .slice ra rn rcp) (rec := rec) (fun G hG => RO.out G w3 (fun k hk => by
                      have := L3.sb
                      have := L4.sb
                      rcases hG k hk with h | h
                      · rcases List.mem_cons.1 h with e | e
                        · omega
                        · exact L4.ge k (List.mem_cons_of_mem _ e)
                      · omega) L3.be) RN.out hown hvb ho5 hg5 (by rcases hat5 with h | h; exact .inl (by simpa [Value.ownBlock] using h); exact .inr h)
                    refine reg_value 5 (.slice (some ⟨gg, 0, none⟩) (nr + 1) cap) (some 94) W5 (by kernel_rfl) (by kernel_rfl) (exec_of (Builtin.append_ #[32, 32] 32 #[.slice (some ⟨lq, 0, none⟩) nr nr, .slice (some ⟨q, 0, none⟩) 1 1]) _ (by kernel_rfl) hr5) hS5 ?_
                    refine reg_now 6 (.slice (some ⟨gg, 0, none⟩) (nr + 1) cap) (some 12) hQN hS5 (by kernel_rfl) (by kernel_rfl) (fun w => by kernel_rfl) ?_
                    refine reg_done (by kernel_rfl) (hN _ _ ?_)
                    have L5 := Lib.hid (L4.below B45)
                    have RW5 := Lib.hid hsn.1
                    have GG5 := Lib.hid hsn.2.2
                    have GL5 : Hid (gg < W5.heap.size) := hlt5
                    have GB5 : Hid (B ≤ gg) := by
                      unfold Hid
                      have := L3.sb
                      have := L4.sb
                      rcases hat5 with h | h
                      · obtain rfl : lq = gg := (by simpa [Value.ownBlock] using h)
                        omega
                      · omega
                    have K5 := Lib.hid (L5.out.kw HK1.out KB.out)
                    have NL5 := Lib.hid L5.out.nl
                    have N20 : Hid (nr + 1 ≤ 20) := by unfold Hid; omega
                    clear hsn hQN hN hS hS5 CQL NL4 n20 ML4 B45 B74 L4 L3 hr5 ho5 hg5 hat5 hlt5 hown hvb rws3 lqo hnr hbq hb3 hql hqg hi0 hy0 hy1 hy2 C7 c0 L7
                    generalize hact : Act.put _ (some 12) _ = act
                    simp only [Act.put, List.setIfInBounds_toArray, List.set_cons_succ, List.set_cons_zero] at hact
                    subst hact
                    obtain ⟨zss, hzss⟩ : ∃ z, Hid (all.take nr ++ [rec] = z) := ⟨_, rfl⟩
                    rw [hzss.out] at RW5
                    have ZL : Hid (zss.length = nr + 1) := by unfold Hid; rw [← hzss.out, List.length_append, NL5.out]; rfl
                    have ZBY : Hid (∀ zs ∈ zss, isBytes zs) := fun zs hz => by
                      rw [← hzss.out] at hz
                      rcases List.mem_append.1 hz with h | h
                      · exact L5.out.iv.by' zs (List.mem_of_mem_take h)
                      · obtain rfl : zs = rec := (by simpa using h)
                        exact RBY.out
                    have PT5 : Hid (PartsOff F1 W5 (.slice (some ⟨gg, 0, none⟩) (nr + 1) cap) zss) := RW5.out.parts (fun zs hz => by
                      rw [← hzss.out] at hz
                      rcases List.mem_append.1 hz with h | h
                      · have := L5.out.iv.sh zs (List.mem_of_mem_take h); omega
                      · obtain rfl : zs = rec := (by simpa using h)
                        rw [hrn.out]; omega) (by rw [ZL.out]; have := N20.out; omega) (fun k hk => List.mem_cons_of_mem _ (List.mem_append_right _ hk)) (fun g' hg' => by
                      obtain rfl : gg = g' := (by simpa [Value.ownBlock] using hg')
                      exact fun h => GG5.out (List.mem_append_right _ h))
                    go_upto_region 27 with (fail)
                    refine lin_begin (opsOf Tryd.f3 27) (by kernel_rfl) ?_
                    refine lin_now 0 (.pointer (some ⟨d, 0, none⟩)) (some 96) (by kernel_rfl) (by kernel_rfl) (by kernel_rfl) ?_
                    refine lin_now 1 (.slice (some ⟨gg, 0, none⟩) (nr + 1) cap) (some 97) (by kernel_rfl) (by kernel_rfl) (by kernel_rfl) ?_
                    by_cases hlong : 2000 < rn
                    · refine lin_call 2 8 #[.pointer (some ⟨d, 0, none⟩), .slice (some ⟨gg, 0, none⟩) (nr + 1) cap] (some 98) _ (by kernel_rfl) (by kernel_rfl) (by kernel_rfl) (begin_long d sz F1 seen dur pend left _ zss _ L5.out.dk (by omega) PT5.out (by rw [ZL.out]; have := N20.out; omega) (fun h => by have := h rec (by rw [← hzss.out]; simp); rw [hrn.out] at this; omega)) ?_
                      rintro e w8 ⟨rfl, rfl⟩
                      refine ⟨_, rfl, ?_⟩
                      refine lin_now 3 (.tuple #[.pointer none, .int .i64 10]) (some 95) (by kernel_rfl) (by kernel_rfl) (by kernel_rfl) ?_
                      refine lin_now 4 (.pointer none) (some 99) (by kernel_rfl) (by kernel_rfl) (by kernel_rfl) ?_
                      refine lin_now 5 (.int .i64 10) (some 100) (by kernel_rfl) (by kernel_rfl) (by kernel_rfl) ?_
                      refine lin_now 6 (.pointer none) (some 13) (by kernel_rfl) (by kernel_rfl) (by kernel_rfl) ?_
                      refine lin_now 7 (.int .i64 10) (some 14) (by kernel_rfl) (by kernel_rfl) (by kernel_rfl) ?_
                      refine lin_done 8 (by kernel_rfl) ?_
                      have HLS : Hid (Ls W1 B d sz (i + 1) ab lg lcap nr sure W5) := (L5.out.next (by omega)).ls
                      clear L5 RW5 PT5
                      generalize hact : Act.put _ (some 14) _ = act
                      simp only [Act.put, List.setIfInBounds_toArray, List.set_cons_succ, List.set_cons_zero] at hact
                      subst hact
                      obtain ⟨A8, F8, first8, g8, seen8, dur8, pend8, left8, all8, tp8, m08, stuck8, hl8⟩ := HLS.out
                      have L8 := Lib.hid hl8
                      have NL8 := Lib.hid hl8.nl
                      clear hl8
                      go_upto_region 48 with (fail)
                      refine lin_begin (opsOf Tryd.f3 48) (by kernel_rfl) ?_
                      refine lin_now 0 (.pointer (some ⟨ab, 0, none⟩)) (some 149) (by kernel_rfl) (by kernel_rfl) (by kernel_rfl) ?_
                      refine lin_call 1 12 #[.pointer (some ⟨ab, 0, none⟩)] (some 150) _ (by kernel_rfl) (by kernel_rfl) (by kernel_rfl) (records_walk L8.out.ar (by rw [NL8.out]; have := L8.out.n20; omega)) ?_
                      rintro e w9 ⟨lv9, rfl, hnr9, hb9⟩
                      obtain ⟨q9, elv9⟩ := hnr9.slice
                      rw [NL8.out] at elv9
                      subst elv9
                      refine ⟨_, rfl, ?_⟩
                      refine lin_now 2 (.slice (some ⟨lg, 0, none⟩) nr lcap) (some 151) (by kernel_rfl) (by kernel_rfl) (by kernel_rfl) ?_
                      have P9 : PartsIn w9 (.slice (some ⟨lg, 0, none⟩) nr lcap) (all8.take nr) := (L8.out.below hb9).parts.in
                      have Q9 : PartsIn w9 (.slice (some ⟨q9, 0, none⟩) nr nr) (all8.take nr) := ((hnr9.rws (F := []) (fun k hk => by simp at hk)).parts (fun zs hz => by have := L8.out.iv.sh zs (List.mem_of_mem_take hz); omega) (by rw [NL8.out]; have := L8.out.n20; omega) (G := []) (fun k hk => by simp at hk) (fun g _ => by simp)).in
                      refine lin_call 3 17 #[.slice (some ⟨q9, 0, none⟩) nr nr, .slice (some ⟨lg, 0, none⟩) nr lcap] (some 152) _ (by kernel_rfl) (by kernel_rfl) (by kernel_rfl) (asame_walk _ _ _ _ _ Q9 P9) ?_
                      rintro e w10 ⟨rfl, nd9, rfl⟩
                      refine ⟨_, rfl, ?_⟩
                      rw [decide_eq_true rfl]
                      refine lin_now 4 (.bool false) (some 153) (by kernel_rfl) (by kernel_rfl) (by kernel_rfl) ?_
                      refine lin_done 5 (by kernel_rfl) ?_
                      have L10 : Hid (Ls W1 B d sz (i + 1) ab lg lcap nr sure (w9.drewN nd9)) := (L8.out.below (hb9.trans ((below_drewN w9 nd9).mono hb9.size))).ls
                      generalize w9.drewN nd9 = W10 at *
                      clear hnr9 hb9 P9 Q9 L8 HLS
                      generalize hact : Act.put _ (some 153) _ = act
                      simp only [Act.put, List.setIfInBounds_toArray, List.set_cons_succ, List.set_cons_zero] at hact
                      subst hact
                      go_wp2
                      go_roundw
                      case rel => exact ⟨i + 1, ab, lg, lcap, nr, sure, by omega, by go_num, rfl, rfl, rfl, L10⟩
                      case measure => simp [intOf]; omega
                    · have ZSH : Hid (∀ zs ∈ zss, zs.length ≤ 2000) := fun zs hz => by
                        rw [← hzss.out] at hz
                        rcases List.mem_append.1 hz with h | h
                        · exact L5.out.iv.sh zs (List.mem_of_mem_take h)
                        · obtain rfl : zs = rec := (by simpa using h)
                          rw [hrn.out]; omega
                      refine lin_call 2 8 #[.pointer (some ⟨d, 0, none⟩), .slice (some ⟨gg, 0, none⟩) (nr + 1) cap] (some 98) _ (by kernel_rfl) (by kernel_rfl) (by kernel_rfl) (begin_walk d sz F1 seen dur pend left _ zss _ [gg] (fun k hk => by rw [show k = gg by simpa using hk]; exact GL5.out) L5.out.dk (by omega) L5.out.iv.bs PT5.out (by rw [ZL.out]; have := N20.out; omega) ZSH.out K5.out.1 K5.out.2 L5.out.lf (by have := L5.out.pl; omega)) ?_
                      intro e w8 hp
                      have hinv := L5.out.iv
                      have hhigh := hinv.toBase.high
                      have key : (e = nil15 ∧ Ls W1 B d sz (i + 1) ab lg lcap nr sure w8) ∨ (∃ ab', e = .returned (.tuple #[.pointer (some ⟨ab', 0, none⟩), .int .i64 0]) ∧ Ls W1 B d sz (i + 1) ab' gg cap (nr + 1) (nr + 1) w8) := by
                        obtain ⟨g', hg'⟩ : ∃ g', (highK seen sz).toNat + 1 = g' := ⟨_, rfl⟩
                        obtain ⟨T, hT⟩ : ∃ T, cntK zss zss.length = T := ⟨_, rfl⟩
                        unfold BeginPost BegStop BegHead BegOk at hp
                        rw [hg', hT] at hp
                        have hgc : g' ≤ i + 2 := by omega
                        have hRl : (rowsK g' 1 zss zss.length).length = 64 * T := by rw [rowsK_length, hT]
                        have hRb := rowsK_bytes g' 1 ZBY.out zss.length
                        have hRs : ∀ q, q < T → Small (i + 2) (getB (rowsK g' 1 zss zss.length) q) := fun q hq => rows_small hgc (by omega) (by omega)
                        rcases hp with ⟨_, h1, h2⟩ | ⟨_, hfit, f, hfr, hp⟩
                        · exact .inl ⟨h1, ((L5.out.below h2).next (by omega)).ls⟩
                        · have hff := hinv.now.fresh hinv.hf (by omega) hfr
                          have hT19 : T ≤ 20 := by omega
                          rcases hp with ⟨h1, h2, F8, h3, h4⟩ | ⟨h1, h2, h3, F8, h4, h5⟩ | ⟨h1, h2, ab', h3, A8, F8, h4, h5, h6⟩
                          · rw [hff] at h3
                            exact .inl ⟨h2, L5.out.failed (by omega) hRl (doneN_le _ _) (by omega) (by omega) hRb (fun q hq => hRs q (by omega)) (by have := L5.out.lf; unfold leftK; split <;> omega) h3 h4 (.inl ⟨rfl, rfl⟩)⟩
                          · rw [hff] at h4
                            exact .inl ⟨h3, L5.out.failed (by omega) hRl (Nat.le_refl _) (by omega) (by omega) hRb hRs (by omega) h4 h5 (.inr ⟨rfl, rfl⟩)⟩
                          · refine .inr ⟨ab', h3, ?_⟩
                            exact begun_ls hinv.toBase (Nat.le_refl _) (by omega) (fresh_at hfr) ZSH.out ZBY.out hg' hT hfit ZL.out rfl rfl rfl h4 h5 (by have := L5.out.lf; unfold leftK; split <;> omega) h6 (RW5.out.weaken (fun k hk => by rcases List.mem_cons.1 hk with h | h; exact List.mem_cons.2 (.inl h); exact List.mem_cons_of_mem _ (List.mem_append_right _ h))) (fun h => GG5.out (List.mem_append_right _ h)) (fun k hk => by rcases List.mem_cons.1 hk with h | h; rw [h]; exact GB5.out; exact L5.out.ge k (List.mem_cons_of_mem _ (List.mem_append_right _ h))) L5.out.sb L5.out.be L5.out.s0
                      rcases key with ⟨rfl, hls8⟩ | ⟨ab', rfl, hls8⟩
                      · refine ⟨_, rfl, ?_⟩
                        refine lin_now 3 (.tuple #[.pointer none, .int .i64 15]) (some 95) (by kernel_rfl) (by kernel_rfl) (by kernel_rfl) ?_
                        refine lin_now 4 (.pointer none) (some 99) (by kernel_rfl) (by kernel_rfl) (by kernel_rfl) ?_
                        refine lin_now 5 (.int .i64 15) (some 100) (by kernel_rfl) (by kernel_rfl) (by kernel_rfl) ?_
                        refine lin_now 6 (.pointer none) (some 13) (by kernel_rfl) (by kernel_rfl) (by kernel_rfl) ?_
                        refine lin_now 7 (.int .i64 15) (some 14) (by kernel_rfl) (by kernel_rfl) (by kernel_rfl) ?_
                        refine lin_done 8 (by kernel_rfl) ?_
                        have HLS := Lib.hid hls8
                        clear hls8 hp hinv hhigh L5 RW5 PT5
                        generalize hact : Act.put _ (some 14) _ = act
                        simp only [Act.put, List.setIfInBounds_toArray, List.set_cons_succ, List.set_cons_zero] at hact
                        subst hact
                        obtain ⟨A8, F8, first8, g8, seen8, dur8, pend8, left8, all8, tp8, m08, stuck8, hl8⟩ := HLS.out
                        have L8 := Lib.hid hl8
                        have NL8 := Lib.hid hl8.nl
                        clear hl8
                        go_upto_region 48 with (fail)
                        refine lin_begin (opsOf Tryd.f3 48) (by kernel_rfl) ?_
                        refine lin_now 0 (.pointer (some ⟨ab, 0, none⟩)) (some 149) (by kernel_rfl) (by kernel_rfl) (by kernel_rfl) ?_
                        refine lin_call 1 12 #[.pointer (some ⟨ab, 0, none⟩)] (some 150) _ (by kernel_rfl) (by kernel_rfl) (by kernel_rfl) (records_walk L8.out.ar (by rw [NL8.out]; have := L8.out.n20; omega)) ?_
                        rintro e w9 ⟨lv9, rfl, hnr9, hb9⟩
                        obtain ⟨q9, elv9⟩ := hnr9.slice
                        rw [NL8.out] at elv9
                        subst elv9
                        refine ⟨_, rfl, ?_⟩
                        refine lin_now 2 (.slice (some ⟨lg, 0, none⟩) nr lcap) (some 151) (by kernel_rfl) (by kernel_rfl) (by kernel_rfl) ?_
                        have P9 : PartsIn w9 (.slice (some ⟨lg, 0, none⟩) nr lcap) (all8.take nr) := (L8.out.below hb9).parts.in
                        have Q9 : PartsIn w9 (.slice (some ⟨q9, 0, none⟩) nr nr) (all8.take nr) := ((hnr9.rws (F := []) (fun k hk => by simp at hk)).parts (fun zs hz => by have := L8.out.iv.sh zs (List.mem_of_mem_take hz); omega) (by rw [NL8.out]; have := L8.out.n20; omega) (G := []) (fun k hk => by simp at hk) (fun g _ => by simp)).in
                        refine lin_call 3 17 #[.slice (some ⟨q9, 0, none⟩) nr nr, .slice (some ⟨lg, 0, none⟩) nr lcap] (some 152) _ (by kernel_rfl) (by kernel_rfl) (by kernel_rfl) (asame_walk _ _ _ _ _ Q9 P9) ?_
                        rintro e w10 ⟨rfl, nd9, rfl⟩
                        refine ⟨_, rfl, ?_⟩
                        rw [decide_eq_true rfl]
                        refine lin_now 4 (.bool false) (some 153) (by kernel_rfl) (by kernel_rfl) (by kernel_rfl) ?_
                        refine lin_done 5 (by kernel_rfl) ?_
                        have L10 : Hid (Ls W1 B d sz (i + 1) ab lg lcap nr sure (w9.drewN nd9)) := (L8.out.below (hb9.trans ((below_drewN w9 nd9).mono hb9.size))).ls
                        generalize w9.drewN nd9 = W10 at *
                        clear hnr9 hb9 P9 Q9 L8 HLS
                        generalize hact : Act.put _ (some 153) _ = act
                        simp only [Act.put, List.setIfInBounds_toArray, List.set_cons_succ, List.set_cons_zero] at hact
                        subst hact
                        go_wp2
                        go_roundw
                        case rel => exact ⟨i + 1, ab, lg, lcap, nr, sure, by omega, by go_num, rfl, rfl, rfl, L10⟩
                        case measure => simp [intOf]; omega
                      · refine ⟨_, rfl, ?_⟩
                        refine lin_now 3 (.tuple #[.pointer (some ⟨ab', 0, none⟩), .int .i64 0]) (some 95) (by kernel_rfl) (by kernel_rfl) (by kernel_rfl) ?_
                        refine lin_now 4 (.pointer (some ⟨ab', 0, none⟩)) (some 99) (by kernel_rfl) (by kernel_rfl) (by kernel_rfl) ?_
                        refine lin_now 5 (.int .i64 0) (some 100) (by kernel_rfl) (by kernel_rfl) (by kernel_rfl) ?_
                        refine lin_now 6 (.pointer (some ⟨ab', 0, none⟩)) (some 13) (by kernel_rfl) (by kernel_rfl) (by kernel_rfl) ?_
                        refine lin_now 7 (.int .i64 0) (some 14) (by kernel_rfl) (by kernel_rfl) (by kernel_rfl) ?_
                        refine lin_done 8 (by kernel_rfl) ?_
                        have HLS := Lib.hid hls8
                        clear hls8 hp hinv hhigh L5 RW5 PT5
                        generalize hact : Act.put _ (some 14) _ = act
                        simp only [Act.put, List.setIfInBounds_toArray, List.set_cons_succ, List.set_cons_zero] at hact
                        subst hact
                        obtain ⟨A8, F8, first8, g8, seen8, dur8, pend8, left8, all8, tp8, m08, stuck8, hl8⟩ := HLS.out
                        have L8 := Lib.hid hl8
                        have NL8 := Lib.hid hl8.nl
                        clear hl8
                        go_upto_region 48 with (fail)
                        refine lin_begin (opsOf Tryd.f3 48) (by kernel_rfl) ?_
                        refine lin_now 0 (.pointer (some ⟨ab', 0, none⟩)) (some 149) (by kernel_rfl) (by kernel_rfl) (by kernel_rfl) ?_
                        refine lin_call 1 12 #[.pointer (some ⟨ab', 0, none⟩)] (some 150) _ (by kernel_rfl) (by kernel_rfl) (by kernel_rfl) (records_walk L8.out.ar (by rw [NL8.out]; have := L8.out.n20; omega)) ?_
                        rintro e w9 ⟨lv9, rfl, hnr9, hb9⟩
                        obtain ⟨q9, elv9⟩ := hnr9.slice
                        rw [NL8.out] at elv9
                        subst elv9
                        refine ⟨_, rfl, ?_⟩
                        refine lin_now 2 (.slice (some ⟨gg, 0, none⟩) (nr + 1) cap) (some 151) (by kernel_rfl) (by kernel_rfl) (by kernel_rfl) ?_
                        have P9 : PartsIn w9 (.slice (some ⟨gg, 0, none⟩) (nr + 1) cap) (all8.take (nr + 1)) := (L8.out.below hb9).parts.in
                        have Q9 : PartsIn w9 (.slice (some ⟨q9, 0, none⟩) (nr + 1) (nr + 1)) (all8.take (nr + 1)) := ((hnr9.rws (F := []) (fun k hk => by simp at hk)).parts (fun zs hz => by have := L8.out.iv.sh zs (List.mem_of_mem_take hz); omega) (by rw [NL8.out]; have := L8.out.n20; omega) (G := []) (fun k hk => by simp at hk) (fun g _ => by simp)).in
                        refine lin_call 3 17 #[.slice (some ⟨q9, 0, none⟩) (nr + 1) (nr + 1), .slice (some ⟨gg, 0, none⟩) (nr + 1) cap] (some 152) _ (by kernel_rfl) (by kernel_rfl) (by kernel_rfl) (asame_walk _ _ _ _ _ Q9 P9) ?_
                        rintro e w10 ⟨rfl, nd9, rfl⟩
                        refine ⟨_, rfl, ?_⟩
                        rw [decide_eq_true rfl]
                        refine lin_now 4 (.bool false) (some 153) (by kernel_rfl) (by kernel_rfl) (by kernel_rfl) ?_
                        refine lin_done 5 (by kernel_rfl) ?_
                        have L10 : Hid (Ls W1 B d sz (i + 1) ab' gg cap (nr + 1) (nr + 1) (w9.drewN nd9)) := (L8.out.below (hb9.trans ((below_drewN w9 nd9).mono hb9.size))).ls
                        generalize w9.drewN nd9 = W10 at *
                        clear hnr9 hb9 P9 Q9 L8 HLS
                        generalize hact : Act.put _ (some 153) _ = act
                        simp only [Act.put, List.setIfInBounds_toArray, List.set_cons_succ, List.set_cons_zero] at hact
                        subst hact
                        go_wp2
                        go_roundw
                        case rel => exact ⟨i + 1, ab', gg, cap, (nr + 1), (nr + 1), by omega, by go_num, rfl, rfl, rfl, L10⟩
                        case measure => simp [intOf]; omega
                  · have e2 : (z == 2) = false := by simpa using hz2
                    clear hz2
                    by_cases hz4 : z = 4
                    · subst hz4
                      have PO7 : Hid (BytesOff F1 w7 (.slice pa pn pcp) picks) := PB.out.off (by rw [hB.out]; exact L7.out.be) (fun k hk => by rw [hB.out]; exact L7.out.ge k (List.mem_cons_of_mem _ (List.mem_append_right _ hk)))
                      go_upto_region 35 with (fail)
                      refine lin_begin (opsOf Tryd.f3 35) (by kernel_rfl) ?_
                      refine lin_now 0 (.pointer (some ⟨d, 0, none⟩)) (some 115) (by kernel_rfl) (by kernel_rfl) (by kernel_rfl) ?_
                      refine lin_now 1 (.pointer (some ⟨cq, 3, none⟩)) (some 116) (by kernel_rfl) (by kernel_rfl) (by kernel_rfl) ?_
                      refine lin_now 2 (.slice pa pn pcp) (some 117) (by kernel_rfl) (by kernel_rfl) (exec_load_cell 33 (.tmp 116) (by kernel_rfl) cq 3 (by kernel_rfl) _ (C7.out.cell rfl) _ Tryd.underlying33 rfl) ?_
                      refine lin_call 3 14 #[.pointer (some ⟨d, 0, none⟩), .slice pa pn pcp] (some 118) _ (by kernel_rfl) (by kernel_rfl) (by kernel_rfl) (crash_walk d sz F1 seen dur pend left _ picks _ L7.out.dk (by have := L7.out.pl; omega) PO7.out PBY.out (by rw [hpn.out]; omega)) ?_
                      rintro e w8 ⟨rfl, F8, hd8, hs8⟩
                      refine ⟨_, rfl, ?_⟩
                      refine lin_done 4 (by kernel_rfl) ?_
                      have hinv := L7.out.iv
                      have hsc := seen_crash hinv.ld hinv.ok PBY.out
                      rw [← hinv.eq] at hsc
                      rw [hsc] at hd8
                      obtain ⟨kp, hkp⟩ : ∃ k, Hid (keptK picks pend.length = k) := ⟨_, rfl⟩
                      rw [hkp.out]
                      obtain ⟨K, hK1, hK2, hop⟩ := hinv.crashed PBY.out
                      have BC := Lib.hid (hinv.toBase.crash PBY.out)
                      obtain ⟨D, hD⟩ : ∃ D, Hid (crashK dur pend picks pend.length = D) := ⟨_, rfl⟩
                      rw [hD.out] at hd8 hop BC
                      have D8 := Lib.hid hd8
                      have OP := Lib.hid hop
                      obtain ⟨m1, m2, m3, m4, -⟩ := L7.out.move (ab' := ab) (hs8.left (A := A1))
                      have M1 := Lib.hid m1
                      have M3 := Lib.hid m3
                      have M4 := Lib.hid m4
                      have K8 : Hid (KW w8) := HK1.out.below m4 KB.out
                      have SB8 : Hid (B ≤ w8.heap.size) := Nat.le_trans L7.out.sb hs8.size
                      have F8G : Hid (∀ k ∈ F8, B ≤ k) := fun k hk => m3 k (List.mem_cons_of_mem _ (List.mem_append_right _ hk))
                      have KF8 : Hid (0 ∉ F8) := fun h => by have := F8G.out _ h; have := KB.out; omega
                      have SHA : Hid (∀ zs ∈ all, zs.length ≤ 2000) := hinv.sh
                      have BYA : Hid (∀ zs ∈ all, isBytes zs) := hinv.by'
                      have HFI := Lib.hid hinv.hf
                      have TK : Hid (cntK (all.take K) (all.take K).length ≤ sz / 2 - 1) := by
                        have h1 : (all.take K).length = K := by rw [List.length_take]; have := hinv.nrl; omega
                        unfold Hid
                        rw [h1, cntK_take all K (Nat.le_refl _)]
                        have := cntK_mono all hK2
                        have := hinv.t1
                        have := hinv.th
                        omega
                      have KL : Hid ((all.take K).length = K) := by unfold Hid; rw [List.length_take]; have := hinv.nrl; omega
                      have NLH := Lib.hid L7.out.nl
                      have LCP : Hid (nr ≤ lcap) := L7.out.lgl.2
                      have N20 : Hid (nr + 1 ≤ 20) := by unfold Hid; have := L7.out.n20; omega
                      have M2 := Lib.hid m2
                      clear hd8 hs8 hsc hop m1 m2 m3 m4 hinv L7 C7 c0 PO7
                      generalize hact : Act.put _ (some 118) _ = act
                      simp only [Act.put, List.setIfInBounds_toArray, List.set_cons_succ, List.set_cons_zero] at hact
                      subst hact
                      have n20 := N20.out
                      have lgn := LCP.out
                      go_wp2_with fail
                      refine (open_walk d sz F8 D D [] (-1) _ D8.out BC.out.bs (by omega) K8.out).mono ?_
                      intro e w9 hp
                      obtain ⟨ob, A9, nx9, rfl, ha9, hst9⟩ : ∃ ob A9 nx9, e = .returned (.tuple #[.pointer (some ⟨ob, 0, none⟩), .int .i64 0]) ∧ Ar w9 A9 F8 ob d first (sz / 2) g nx9 true (all.take K) ∧ Step [] w8 A9 w9 := by
                        rcases hp with ⟨ob, h1, f, A9, hc, ⟨_, K', h2, _, h3⟩, h4⟩ | ⟨_, ⟨h1, h2⟩, _⟩
                        · obtain rfl := OP.out.cur.unique hc (by omega)
                          rw [OP.out.gen] at h2 h3
                          obtain rfl := OP.out.st.unique h2
                          rw [OP.out.rs] at h3
                          exact ⟨ob, A9, _, h1, h3, h4⟩
                        · rcases OP.out.cur with ⟨_, h, _⟩ | ⟨_, h, _⟩
                          · exact absurd h h1
                          · exact absurd h h2
                      have B89 : Below w8.heap.size w8 w9 := hst9.below
                      have A9H := Lib.hid ha9
                      have B9 := Lib.hid B89
                      clear hp ha9 hst9 B89
                      go_wp2_with fail
                      refine (records_walk A9H.out (by rw [KL.out]; omega)).mono ?_
                      rintro e w10 ⟨lv, rfl, hnr, hb10⟩
                      obtain ⟨lq, elv⟩ := hnr.slice
                      rw [KL.out] at elv
                      subst elv
                      have B10 : Hid (Below w8.heap.size w8 w10) := B9.out.trans (hb10.mono B9.out.size)
                      have NR := Lib.hid hnr
                      have LQ : Hid (w9.heap.size ≤ lq ∧ lq < w10.heap.size) := hnr.own lq rfl
                      have LQ8 : Hid (w8.heap.size ≤ lq) := by unfold Hid; have := B9.out.size; have := LQ.out; omega
                      clear hnr hb10
                      have PL : Hid (PartsIn w10 (.slice (some ⟨lq, 0, none⟩) K K) ((all.take nr).take K)) := by
                        unfold Hid
                        rw [List.take_take, Nat.min_eq_left hK2]
                        exact ((NR.out.rws (F := []) (fun k hk => by simp at hk)).parts (fun zs hz => by have := SHA.out zs (List.mem_of_mem_take hz); omega) (by rw [KL.out]; omega) (G := []) (fun k hk => by simp at hk) (fun g _ => by simp)).in
                      have PM : Hid (PartsIn w10 (.slice (some ⟨lg, 0, none⟩) nr lcap) (all.take nr)) := ((M1.out.step (Step.of_below B10.out (Nat.le_refl _)) ⟨[], [], Step.of_below B10.out (Nat.le_refl _), fun g _ => by simp⟩).parts (fun zs hz => by have := SHA.out zs (List.mem_of_mem_take hz); omega) (by rw [NLH.out]; omega) (G := []) (fun k hk => by simp at hk) (fun g _ => by simp)).in
                      go_wp2_with fail
                      refine (beginning_walk _ K lg lcap K nr sure _ _ PL.out PM.out NLH.out hK2 lgn hK1).mono ?_
                      rintro e w11 ⟨rfl, nd, rfl⟩
                      have B11 : Hid (Below w8.heap.size w8 (w10.drewN nd)) := B10.out.trans ((below_drewN w10 nd).mono B10.out.size)
                      have NR11 := Lib.hid (NR.out.below (below_drewN w10 nd))
                      have LQ11 : Hid (lq < (w10.drewN nd).heap.size) := LQ.out.2
                      generalize w10.drewN nd = W11 at *
                      clear PL PM NR B10 LQ
                      have D11 := Lib.hid (D8.out.below B11.out)
                      have K11 : Hid (KW W11) := K8.out.below B11.out K8.out.lt
                      have LF8 : Hid (lq ∉ F8) := fun h => by have := D8.out.lt _ h; have := LQ8.out; omega
                      have RW11 : Hid (Rws (lq :: F8) W11 (.slice (some ⟨lq, 0, none⟩) K K) (all.take K)) := NR11.out.rws (fun k hk => by
                        rcases List.mem_cons.1 hk with h | h
                        · exact .inr (by rw [h]; rfl)
                        · exact .inl (Nat.lt_of_lt_of_le (D8.out.lt k h) B9.out.size))
                      have PT11 : Hid (PartsOff F8 W11 (.slice (some ⟨lq, 0, none⟩) K K) (all.take K)) := RW11.out.parts (fun zs hz => by have := SHA.out zs (List.mem_of_mem_take hz); omega) (by rw [KL.out]; omega) (fun k hk => List.mem_cons_of_mem _ hk) (fun g' hg' => by
                        obtain rfl : lq = g' := (by simpa [Value.ownBlock] using hg')
                        exact LF8.out)
                      go_upto_region 42 with (fail)
                      refine lin_begin (opsOf Tryd.f3 42) (by kernel_rfl) ?_
                      refine lin_now 0 (.pointer (some ⟨d, 0, none⟩)) (some 138) (by kernel_rfl) (by kernel_rfl) (by kernel_rfl) ?_
                      refine lin_now 1 (.slice (some ⟨lq, 0, none⟩) K K) (some 139) (by kernel_rfl) (by kernel_rfl) (by kernel_rfl) ?_
                      refine lin_call 2 8 #[.pointer (some ⟨d, 0, none⟩), .slice (some ⟨lq, 0, none⟩) K K] (some 140) _ (by kernel_rfl) (by kernel_rfl) (by kernel_rfl) (begin_walk d sz F8 D D [] (-1) _ (all.take K) _ [lq] (fun k hk => by rw [show k = lq by simpa using hk]; exact LQ11.out) D11.out (by omega) BC.out.bs PT11.out (by rw [KL.out]; omega) (fun zs hz => SHA.out zs (List.mem_of_mem_take hz)) K11.out KF8.out (by omega) (by simp)) ?_
                      intro e w12 hp
                      obtain ⟨ab', rfl, hls12⟩ : ∃ ab', e = .returned (.tuple #[.pointer (some ⟨ab', 0, none⟩), .int .i64 0]) ∧ Ls W1 B d sz (i + 1) ab' lq K K K w12 := by
                        have hhigh := BC.out.high
                        obtain ⟨g', hg'⟩ : ∃ g', (highK D sz).toNat + 1 = g' := ⟨_, rfl⟩
                        obtain ⟨T, hT⟩ : ∃ T, cntK (all.take K) (all.take K).length = T := ⟨_, rfl⟩
                        have hfit := TK.out
                        rw [hT] at hfit
                        unfold BeginPost BegStop BegHead BegOk at hp
                        rw [hg', hT] at hp
                        rcases hp with ⟨h1, _⟩ | ⟨_, _, f, hfr, hp⟩
                        · omega
                        · rcases hp with ⟨h1, _⟩ | ⟨_, h2, _⟩ | ⟨_, _, ab', h3, A12, F12, h4, h5, h6⟩
                          · rw [done_neg] at h1; omega
                          · rw [left_neg] at h2; omega
                          · refine ⟨ab', h3, ?_⟩
                            exact begun_ls BC.out (Nat.le_refl _) (by omega) (fresh_at hfr) (fun zs hz => SHA.out zs (List.mem_of_mem_take hz)) (fun zs hz => BYA.out zs (List.mem_of_mem_take hz)) hg' hT hfit KL.out rfl rfl rfl h4 h5 (by rw [left_neg]; omega) h6 RW11.out LF8.out (fun k hk => by rcases List.mem_cons.1 hk with h | h; rw [h]; have := LQ8.out; have := SB8.out; omega; exact F8G.out k h) (Nat.le_trans SB8.out B11.out.size) (M4.out.trans (B11.out.mono SB8.out)) (Nat.le_of_eq hB.out.symm)
                      refine ⟨_, rfl, ?_⟩
                      refine lin_now 3 (.tuple #[.pointer (some ⟨ab', 0, none⟩), .int .i64 0]) (some 137) (by kernel_rfl) (by kernel_rfl) (by kernel_rfl) ?_
                      refine lin_now 4 (.pointer (some ⟨ab', 0, none⟩)) (some 141) (by kernel_rfl) (by kernel_rfl) (by kernel_rfl) ?_
                      refine lin_now 5 (.int .i64 0) (some 142) (by kernel_rfl) (by kernel_rfl) (by kernel_rfl) ?_
                      refine lin_now 6 (.pointer (some ⟨ab', 0, none⟩)) (some 18) (by kernel_rfl) (by kernel_rfl) (by kernel_rfl) ?_
                      refine lin_now 7 (.int .i64 0) (some 19) (by kernel_rfl) (by kernel_rfl) (by kernel_rfl) ?_
                      refine lin_done 8 (by kernel_rfl) ?_
                      have HLS := Lib.hid hls12
                      clear hls12 hp D11 K11 RW11 PT11 NR11 B11 A9H B9 M1 M2 M3 M4 D8 OP BC K8
                      generalize hact : Act.put _ (some 19) _ = act
                      simp only [Act.put, List.setIfInBounds_toArray, List.set_cons_succ, List.set_cons_zero] at hact
                      subst hact
                      obtain ⟨A8, F8, first8, g8, seen8, dur8, pend8, left8, all8, tp8, m08, stuck8, hl8⟩ := HLS.out
                      have L8 := Lib.hid hl8
                      have NL8 := Lib.hid hl8.nl
                      clear hl8
                      go_upto_region 48 with (fail)
                      refine lin_begin (opsOf Tryd.f3 48) (by kernel_rfl) ?_
                      refine lin_now 0 (.pointer (some ⟨ab', 0, none⟩)) (some 149) (by kernel_rfl) (by kernel_rfl) (by kernel_rfl) ?_
                      refine lin_call 1 12 #[.pointer (some ⟨ab', 0, none⟩)] (some 150) _ (by kernel_rfl) (by kernel_rfl) (by kernel_rfl) (records_walk L8.out.ar (by rw [NL8.out]; have := L8.out.n20; omega)) ?_
                      rintro e w9 ⟨lv9, rfl, hnr9, hb9⟩
                      obtain ⟨q9, elv9⟩ := hnr9.slice
                      rw [NL8.out] at elv9
                      subst elv9
                      refine ⟨_, rfl, ?_⟩
                      refine lin_now 2 (.slice (some ⟨lq, 0, none⟩) K K) (some 151) (by kernel_rfl) (by kernel_rfl) (by kernel_rfl) ?_
                      have P9 : PartsIn w9 (.slice (some ⟨lq, 0, none⟩) K K) (all8.take K) := (L8.out.below hb9).parts.in
                      have Q9 : PartsIn w9 (.slice (some ⟨q9, 0, none⟩) K K) (all8.take K) := ((hnr9.rws (F := []) (fun k hk => by simp at hk)).parts (fun zs hz => by have := L8.out.iv.sh zs (List.mem_of_mem_take hz); omega) (by rw [NL8.out]; have := L8.out.n20; omega) (G := []) (fun k hk => by simp at hk) (fun g _ => by simp)).in
                      refine lin_call 3 17 #[.slice (some ⟨q9, 0, none⟩) K K, .slice (some ⟨lq, 0, none⟩) K K] (some 152) _ (by kernel_rfl) (by kernel_rfl) (by kernel_rfl) (asame_walk _ _ _ _ _ Q9 P9) ?_
                      rintro e w10 ⟨rfl, nd9, rfl⟩
                      refine ⟨_, rfl, ?_⟩
                      rw [decide_eq_true rfl]
                      refine lin_now 4 (.bool false) (some 153) (by kernel_rfl) (by kernel_rfl) (by kernel_rfl) ?_
                      refine lin_done 5 (by kernel_rfl) ?_
                      have L10 : Hid (Ls W1 B d sz (i + 1) ab' lq K K K (w9.drewN nd9)) := (L8.out.below (hb9.trans ((below_drewN w9 nd9).mono hb9.size))).ls
                      generalize w9.drewN nd9 = W10 at *
                      clear hnr9 hb9 P9 Q9 L8 HLS
                      generalize hact : Act.put _ (some 153) _ = act
                      simp only [Act.put, List.setIfInBounds_toArray, List.set_cons_succ, List.set_cons_zero] at hact
                      subst hact
                      go_wp2
                      go_roundw
                      case rel => exact ⟨i + 1, ab', lq, K, K, K, by omega, by go_num, rfl, rfl, rfl, L10⟩
                      case measure => simp [intOf]; omega
                    · have e4 : (z == 4) = false := by simpa using hz4
                      clear hz4
                      have HLS : Hid (Ls W1 B d sz (i + 1) ab lg lcap nr sure w7) := (L7.out.next (by omega)).ls
                      clear L7 C7
                      obtain ⟨A8, F8, first8, g8, seen8, dur8, pend8, left8, all8, tp8, m08, stuck8, hl8⟩ := HLS.out
                      have L8 := Lib.hid hl8
                      have NL8 := Lib.hid hl8.nl
                      clear hl8
                      go_upto_region 48 with (fail)
                      refine lin_begin (opsOf Tryd.f3 48) (by kernel_rfl) ?_
                      refine lin_now 0 (.pointer (some ⟨ab, 0, none⟩)) (some 149) (by kernel_rfl) (by kernel_rfl) (by kernel_rfl) ?_
                      refine lin_call 1 12 #[.pointer (some ⟨ab, 0, none⟩)] (some 150) _ (by kernel_rfl) (by kernel_rfl) (by kernel_rfl) (records_walk L8.out.ar (by rw [NL8.out]; have := L8.out.n20; omega)) ?_
                      rintro e w9 ⟨lv9, rfl, hnr9, hb9⟩
                      obtain ⟨q9, elv9⟩ := hnr9.slice
                      rw [NL8.out] at elv9
                      subst elv9
                      refine ⟨_, rfl, ?_⟩
                      refine lin_now 2 (.slice (some ⟨lg, 0, none⟩) nr lcap) (some 151) (by kernel_rfl) (by kernel_rfl) (by kernel_rfl) ?_
                      have P9 : PartsIn w9 (.slice (some ⟨lg, 0, none⟩) nr lcap) (all8.take nr) := (L8.out.below hb9).parts.in
                      have Q9 : PartsIn w9 (.slice (some ⟨q9, 0, none⟩) nr nr) (all8.take nr) := ((hnr9.rws (F := []) (fun k hk => by simp at hk)).parts (fun zs hz => by have := L8.out.iv.sh zs (List.mem_of_mem_take hz); omega) (by rw [NL8.out]; have := L8.out.n20; omega) (G := []) (fun k hk => by simp at hk) (fun g _ => by simp)).in
                      refine lin_call 3 17 #[.slice (some ⟨q9, 0, none⟩) nr nr, .slice (some ⟨lg, 0, none⟩) nr lcap] (some 152) _ (by kernel_rfl) (by kernel_rfl) (by kernel_rfl) (asame_walk _ _ _ _ _ Q9 P9) ?_
                      rintro e w10 ⟨rfl, nd9, rfl⟩
                      refine ⟨_, rfl, ?_⟩
                      rw [decide_eq_true rfl]
                      refine lin_now 4 (.bool false) (some 153) (by kernel_rfl) (by kernel_rfl) (by kernel_rfl) ?_
                      refine lin_done 5 (by kernel_rfl) ?_
                      have L10 : Hid (Ls W1 B d sz (i + 1) ab lg lcap nr sure (w9.drewN nd9)) := (L8.out.below (hb9.trans ((below_drewN w9 nd9).mono hb9.size))).ls
                      generalize w9.drewN nd9 = W10 at *
                      clear hnr9 hb9 P9 Q9 L8 HLS
                      generalize hact : Act.put _ (some 153) _ = act
                      simp only [Act.put, List.setIfInBounds_toArray, List.set_cons_succ, List.set_cons_zero] at hact
                      subst hact
                      go_wp2
                      go_roundw
                      case rel => exact ⟨i + 1, ab, lg, lcap, nr, sure, by omega, by go_num, rfl, rfl, rfl, L10⟩
                      case measure => simp [intOf]; omega
          · have r1 : ¬ (i : Int) < (n : Int) := by omega
            obtain ⟨A1, F1, first, g, seen, dur, pend, left, all, tp, m0, stuck, hlx⟩ := hls.out
            have BZ : Hid (Below B0 w wr) := BE1.out.trans (hlx.be.mono BB.out)
            clear hlx
            go_wp2
            go_ret
            exact ⟨rfl, BZ.out⟩
end Go.Proofs.YtijmaigcdcloiaaDoor
