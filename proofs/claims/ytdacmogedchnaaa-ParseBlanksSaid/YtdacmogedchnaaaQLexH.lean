/- strings.Builder as package lex uses it; Join. -/
import Derived.Test.YtdacmogedchnaaaQGenT
import Derived.Test.YtdacmogedchnaaaQLexD
import Derived.Shelf.Strings.BuilderK
namespace Go.Proofs.Ytdacmogedchnaaa
open Go Go.RowKit
set_option maxRecDepth 100000
abbrev BdAt (B b : Nat) (p : Value) (bs : List Value) (w : World) : Prop := Lib.BuilderAtF 64 5 B b p bs w
abbrev Bd (B b : Nat) (bs : List Value) (w : World) : Prop := Lib.IsBuilderF 64 5 B b bs w
/-- What a writer leaves. -/
def BdPost (B b : Nat) (bs : List Value) (w w' : World) : Prop := Bd B b bs w' ∧ Below B w w' ∧ Lib.OthersKept 5 (some b) w w'
theorem ownF_keep {base : Nat} {e : TypeId} {v : Value} {n : Nat} {xs : List Value} {w w' : World} (h : w.ownsRowF base e 1 v n xs) (hk : ∀ k, k < w.heap.size → w'.heap[k]? = w.heap[k]?) : w'.ownsRowF base e 1 v n xs := by
 refine ⟨h.1, ?_⟩
 rcases h.2 with h2 | ⟨g, cap, cur, fz, h1, h2, h3, h4⟩
 ·exact .inl h2
 ·exact .inr ⟨g, cap, cur, fz, h1, h2, by rw [hk g (Array.getElem?_eq_some_iff.1 h3).1]; exact h3, h4⟩
theorem BdAt.keep {B b : Nat} {p : Value} {bs : List Value} {w w' : World} (h : BdAt B b p bs w) (hk : ∀ k, k < w.heap.size → w'.heap[k]? = w.heap[k]?) : BdAt B b p bs w' := by
 have hlt := Lib.BuilderAtF.lt h
 obtain ⟨hB, v, hb, hown, hne⟩ := h
 exact ⟨hB, v, by rw [hk b hlt]; exact hb, ownF_keep hown hk, hne⟩
theorem Bd.below {B b : Nat} {bs : List Value} {w w' : World} (h : Bd B b bs w) (hb : Below w.heap.size w w') : Bd B b bs w' := by
 rcases h with h | h
 ·exact .inl (BdAt.keep h (fun k hk => hb.block k hk))
 ·exact .inr (BdAt.keep h (fun k hk => hb.block k hk))
theorem sizeBd : (Try.prog.info? 64).map (·.size) = some 2 := by kernel_rfl
theorem liesBd : liesAt Try.prog Try.prog.depth 64 (2 / Try.prog.cellsOf 64) 0 64 1 = true := by kernel_rfl
theorem sizePBd : (Try.prog.info? 61).map (·.size) = some 1 := by kernel_rfl
theorem sizeBys : (Try.prog.info? 62).map (·.size) = some 1 := by kernel_rfl
theorem infoByX : (Try.prog.info? 5).map (fun i => (i.zero, i.size, i.bytes)) = some (some (.int .u8 0), 1, 1) := by kernel_rfl
theorem exec_pNe {a : Act} {w : World} {op : Oper} (t2 : TypeId) (x y : Operand) (p : Addr) (ho : op.op = .binOp .neq 61 x y t2) (ex : a.eval x = .pointer (some p)) (ey : a.eval y = .pointer (some p)) (hg : ∀ w, (eqGuard .neq 61 x y (.pointer (some p)) (.pointer (some p))).run Try.prog w = .ok () w) : (execOp a.eval op).run Try.prog w = .ok (.value (.bool false)) w := by
 obtain ⟨j, hj, -⟩ := Option.map_eq_some_iff.1 sizeBd
 have h := Lib.run_neq_ptr_same (P := Try.prog) w p Try.underlying61 hj
 unfold execOp
 simp only [ho, ex, ey, Sem.run_bind, hg, Result.andThen_ok, h]
 rfl
set_option maxHeartbeats 2000000 in
theorem bcheck_fresh (B b : Nat) (bs : List Value) (w : World) (h : BdAt B b (.pointer none) bs w) : Calls Try.prog 40 #[.pointer (some ⟨b, 0, none⟩)] w fun e w' => e = .returned (.tuple #[]) ∧ BdPost B b bs w w' := by
 have C0 : Hid (w.cell? ⟨b, 0, none⟩ = some (.pointer none)) := Lib.BuilderAtF.cell0 h
 have SH : Hid (w.shape? b = some (64, 2)) := Lib.BuilderAtF.shape h
 obtain ⟨j, hj, hjs⟩ := Option.map_eq_some_iff.1 sizeBd
 obtain ⟨v, hb⟩ : ∃ v, Hid (Blk w b 64 [.pointer none, v]) := by obtain ⟨_, v, hb, _⟩ := h; exact ⟨v, hb⟩
 have US := Lib.hid (Lib.BuilderAtF.used h (.pointer (some ⟨b, 0, none⟩)))
 have BB : Hid (B ≤ b) := h.1
 clear h
 go_enter Try.func40, Try.ntmps40
 go_upto_region 0 with (fail)
 refine lbeg (opsOf Try.f40 0) ?_
 refine lnow 0 (.pointer (some ⟨b, 0, none⟩)) (some 2) ?_
 refine lnow 1 (.pointer (some ⟨b, 0, none⟩)) (some 3) ?_
 refine lnow 2 (.pointer (some ⟨b, 0, none⟩)) (some 4) ?_
 refine lcl 3 (.pointer none) (some 5) 61 4 (b) 0 (C0.out) Try.underlying61 ?_
 refine lnow 4 (.bool true) (some 6) ?_
 refine ldn 5 ?_
 generalize hact : Act.put _ (some 6) _ = act
 simp only [Act.put, sA, sC, sZ] at hact
 subst hact
 go_upto_region 1 with (fail)
 refine lbeg (opsOf Try.f40 1) ?_
 refine lnow 0 (.pointer (some ⟨b, 0, none⟩)) (some 7) ?_
 refine lnow 1 (.pointer (some ⟨b, 0, none⟩)) (some 8) ?_
 refine lnowP 2 (.pointer (some ⟨b, 0, none⟩)) (some 9) (exec_of (convert 61 89 (.pointer (some ⟨b, 0, none⟩))) _ (by kernel_rfl) (Lib.run_to_unsafe w ⟨b, 0, none⟩ Try.underlying61 Try.underlying89 hj (by rw [hjs]; decide) SH.out (Nat.zero_lt_succ 1))) ?_
 refine lin_now 3 (.pointer (some ⟨b, 0, none⟩)) (some 10) (by kernel_rfl) (by kernel_rfl) ((congrArg (fun z : Sem Next => z.run Try.prog w) (show execOp _ _ = callFunc 57 #[.pointer (some ⟨b, 0, none⟩)] by kernel_rfl)).trans ((run_callFunc_extern Try.func57 (by kernel_rfl) (by kernel_rfl) (by kernel_rfl) (e := Extern.AbiNoEscape.same) (by kernel_rfl) _ _).trans (by rw [Lib.run_noEscape]; rfl))) ?_
 refine lnowP 4 (.pointer (some ⟨b, 0, none⟩)) (some 11) (exec_of (convert 89 61 (.pointer (some ⟨b, 0, none⟩))) _ (by kernel_rfl) (Lib.run_from_unsafe w ⟨b, 0, none⟩ Try.underlying89 Try.underlying61 hj SH.out liesBd)) ?_
 refine lnow 5 (.pointer (some ⟨b, 0, none⟩)) (some 12) ?_
 refine lnow 6 (.pointer (some ⟨b, 0, none⟩)) (some 13) ?_
 refine lin_store 7 (w.setCell ⟨b, 0, none⟩ (.pointer (some ⟨b, 0, none⟩))) (by kernel_rfl) (by kernel_rfl) (exec_store_cell 61 (.tmp 13) (.tmp 11) (by kernel_rfl) b 0 (.pointer (some ⟨b, 0, none⟩)) (by kernel_rfl) (by kernel_rfl) 64 [.pointer none, v] hb.out (by simp) sizePBd rfl rfl) ?_
 refine ldn 8 ?_
 generalize hact : Act.put _ none _ = act
 simp only [Act.put, sA, sC, sZ] at hact
 subst hact
 go_wp2
 go_end0
 exact ⟨rfl, .inr US.out, (Below.refl B w).setCell (p := ⟨b, 0, none⟩) BB.out _, (Lib.OthersKept.refl _ _ w).setCell ⟨b, 0, none⟩ rfl _⟩
set_option maxHeartbeats 2000000 in
theorem bcheck_used (B b : Nat) (bs : List Value) (w : World) (h : BdAt B b (.pointer (some ⟨b, 0, none⟩)) bs w) : Calls Try.prog 40 #[.pointer (some ⟨b, 0, none⟩)] w fun e w' => e = .returned (.tuple #[]) ∧ BdPost B b bs w w' := by
 have C0 : Hid (w.cell? ⟨b, 0, none⟩ = some (.pointer (some ⟨b, 0, none⟩))) := Lib.BuilderAtF.cell0 h
 have H := Lib.hid h
 clear h
 go_enter Try.func40, Try.ntmps40
 go_upto_region 0 with (fail)
 refine lbeg (opsOf Try.f40 0) ?_
 refine lnow 0 (.pointer (some ⟨b, 0, none⟩)) (some 2) ?_
 refine lnow 1 (.pointer (some ⟨b, 0, none⟩)) (some 3) ?_
 refine lnow 2 (.pointer (some ⟨b, 0, none⟩)) (some 4) ?_
 refine lcl 3 (.pointer (some ⟨b, 0, none⟩)) (some 5) 61 4 (b) 0 (C0.out) Try.underlying61 ?_
 refine lnow 4 (.bool false) (some 6) ?_
 refine ldn 5 ?_
 generalize hact : Act.put _ (some 6) _ = act
 simp only [Act.put, sA, sC, sZ] at hact
 subst hact
 go_upto_region 2 with (fail)
 refine lbeg (opsOf Try.f40 2) ?_
 refine lnow 0 (.pointer (some ⟨b, 0, none⟩)) (some 14) ?_
 refine lnow 1 (.pointer (some ⟨b, 0, none⟩)) (some 15) ?_
 refine lnow 2 (.pointer (some ⟨b, 0, none⟩)) (some 16) ?_
 refine lcl 3 (.pointer (some ⟨b, 0, none⟩)) (some 17) 61 16 (b) 0 (C0.out) Try.underlying61 ?_
 refine lnow 4 (.pointer (some ⟨b, 0, none⟩)) (some 18) ?_
 refine lnowP 5 (.bool false) (some 19) (exec_pNe 61 (.tmp 17) (.tmp 18) ⟨b, 0, none⟩ (by kernel_rfl) (by kernel_rfl) (by kernel_rfl) (fun _ => rfl)) ?_
 refine ldn 6 ?_
 generalize hact : Act.put _ (some 19) _ = act
 simp only [Act.put, sA, sC, sZ] at hact
 subst hact
 go_wp2
 go_end0
 exact ⟨rfl, .inr H.out, Below.refl B w, Lib.OthersKept.refl _ _ w⟩
theorem bcheck_walk (B b : Nat) (bs : List Value) (w : World) (h : Bd B b bs w) : Calls Try.prog 40 #[.pointer (some ⟨b, 0, none⟩)] w fun e w' => e = .returned (.tuple #[]) ∧ BdPost B b bs w w' := by
 rcases h with h | h
 ·exact bcheck_fresh B b bs w h
 ·exact bcheck_used B b bs w h
theorem Bd.parts {B b : Nat} {bs : List Value} {w : World} (h : Bd B b bs w) : ∃ p v, Blk w b 64 [p, v] ∧ w.ownsRowF B 5 1 v bs.length bs ∧ v.ownBlock ≠ some b ∧ B ≤ b ∧ (p = .pointer none ∨ p = .pointer (some ⟨b, 0, none⟩)) := by
 rcases h with ⟨hB, v, hb, h1, h2⟩ | ⟨hB, v, hb, h1, h2⟩
 ·exact ⟨_, v, hb, h1, h2, hB, .inl rfl⟩
 ·exact ⟨_, v, hb, h1, h2, hB, .inr rfl⟩
theorem Bd.put {B b : Nat} {p v v' : Value} {bs : List Value} {w : World} (hB : B ≤ b) (hb : Blk w b 64 [p, v]) (hown : w.ownsRowF B 5 1 v' bs.length bs) (hp : p = .pointer none ∨ p = .pointer (some ⟨b, 0, none⟩)) : Bd B b bs (w.setCell ⟨b, 1, none⟩ v') := by
 have h := Lib.BuilderAtF.put (T := 64) (e := 5) hB hb hown (by decide)
 rcases hp with rfl | rfl
 ·exact .inl h
 ·exact .inr h
theorem ownF_cells {base : Nat} {e : TypeId} {v : Value} {n : Nat} {xs : List Value} {w : World} (h : w.ownsRowF base e 1 v n xs) : v.cells = #[v] := by
 rcases h.2 with ⟨rfl, _⟩ | ⟨g, cap, cur, fz, rfl, _⟩ <;> rfl
theorem ownF_one {base : Nat} {e : TypeId} {v : Value} {n : Nat} {xs : List Value} {w : World} (h : w.ownsRowF base e 1 v n xs) : v.oneCell' = true := by
 rcases h.2 with ⟨rfl, _⟩ | ⟨g, cap, cur, fz, rfl, _⟩ <;> rfl
set_option maxHeartbeats 2000000 in
theorem wbyte_walk (B b : Nat) (bs : List Value) (c : Int) (w : World) (h : Bd B b bs w) (hn : bs.length ≤ 1000000) (hBw : B ≤ w.heap.size) : Calls Try.prog 24 #[.pointer (some ⟨b, 0, none⟩), .int .u8 c] w fun e w' => e = .returned .nilIface ∧ BdPost B b (bs ++ [.int .u8 c]) w w' := by
 have H := Lib.hid h
 clear h
 have CK := bcheck_walk B b bs w H.out
 go_enter Try.func24, Try.ntmps24
 go_upto_region 0 with (fail)
 refine lbeg (opsOf Try.f24 0) ?_
 refine lnow 0 (.nilIface) (some 4) ?_
 refine ldn 1 ?_
 generalize hact : Act.put _ (some 4) _ = act
 simp only [Act.put, sA, sC, sZ] at hact
 subst hact
 go_upto_region 1 with (fail)
 refine lbeg (opsOf Try.f24 1) ?_
 refine lnow 0 (.pointer (some ⟨b, 0, none⟩)) (some 5) ?_
 refine lcal 1 40 #[.pointer (some ⟨b, 0, none⟩)] (some 6) _ (CK) ?_
 rintro e w1 ⟨rfl, hd1, hb1, hk1⟩
 refine ⟨_, rfl, ?_⟩
 refine ldn 2 ?_
 generalize hact : Act.put _ (some 6) _ = act
 simp only [Act.put, sA, sC, sZ] at hact
 subst hact
 obtain ⟨p, v, hblk, hown, hne, hB, hp⟩ := Bd.parts hd1
 have BL := Lib.hid hblk
 have OW := Lib.hid hown
 have NE := Lib.hid hne
 have BB := Lib.hid hB
 have PP := Lib.hid hp
 have B1 := Lib.hid hb1
 have K1 := Lib.hid hk1
 have BW : Hid (B ≤ w1.heap.size) := Nat.le_trans hBw hb1.size
 clear hblk hown hne hB hp hb1 hk1 hd1 H CK
 obtain ⟨i0, hi, hz0, hz1, hz2⟩ := info_parts infoByX
 go_upto_region 2 with (fail)
 refine lbeg (opsOf Try.f24 2) ?_
 refine lnow 0 (.pointer (some ⟨b, 0, none⟩)) (some 7) ?_
 refine lnow 1 (.pointer (some ⟨b, 0, none⟩)) (some 8) ?_
 refine lnow 2 (.pointer (some ⟨b, 0, none⟩)) (some 9) ?_
 refine lnow 3 (.pointer (some ⟨b, 1, none⟩)) (some 10) ?_
 refine lcl 4 (v) (some 11) 62 10 (b) 1 (BL.out.cell rfl) Try.underlying62 ?_
 refine lnow 5 (.int .u8 c) (some 12) ?_
 have BN : Hid (Blk (w1.alloc (.cells #[.int .u8 c] 5)) w1.heap.size 5 [.int .u8 c]) := Blk.new w1 5 [.int .u8 c]
 obtain ⟨v', w2, hr, hown', hgrow, -⟩ := run_append_ownF (P := Try.prog) (w1.alloc (.cells #[.int .u8 c] 5)) B 62 62 5 i0 (.int .u8 0) 1 1 Try.underlying62 hi hz0 hz1 hz2 rfl (by decide) v bs.length bs (OW.out.alloc _) ⟨w1.heap.size, 0, none⟩ 1 1 [.int .u8 c] rfl (fun j u hj => by rw [Addr.add_mid]; exact BN.out.whole j u hj) (fun u hu => by obtain rfl : u = .int .u8 c := (by simpa using hu); rfl) (by unfold maxLen; omega) (by omega) (Nat.le_trans BW.out (by simp))
 refine lin_value 6 (.slice (some ⟨w1.heap.size, 0, none⟩) 1 1) (some 13) (w1.alloc (.cells #[.int .u8 c] 5)) (by kernel_rfl) (by kernel_rfl) (by kernel_rfl) ?_
 refine lin_value 7 v' (some 14) w2 (by kernel_rfl) (by kernel_rfl) (exec_of (Builtin.append_ #[62, 62] 62 #[v, .slice (some ⟨w1.heap.size, 0, none⟩) 1 1]) _ (by kernel_rfl) hr) ?_
 have BL2 : Hid (Blk w2 b 64 [p, v]) := by have hlt := BL.out.lt; unfold Blk; rw [hgrow.block b (by simp; omega) (fun e => NE.out e.symm)]; exact BL.out.below ((Below.refl w1.heap.size w1).alloc (Nat.le_refl _) _) hlt
 have G1 : Hid (Below B w w2) := (B1.out.alloc BW.out _).grown hgrow (Nat.le_trans BW.out (by simp)) (fun k hk => (OW.out.lt k hk).1)
 have G2 : Hid (Lib.OthersKept 5 (some b) w w2) := (K1.out.alloc _).grown hgrow (Lib.ownsRowF_kind (OW.out.alloc _))
 have OW2 := Lib.hid hown'
 clear hr hown' hgrow hi hz0 hz1 hz2 BL OW B1 K1
 refine lnow 8 (.pointer (some ⟨b, 0, none⟩)) (some 15) ?_
 refine lnow 9 (.pointer (some ⟨b, 1, none⟩)) (some 16) ?_
 refine lin_store 10 (w2.setCell ⟨b, 1, none⟩ v') (by kernel_rfl) (by kernel_rfl) (exec_store_cell 62 (.tmp 16) (.tmp 14) (by kernel_rfl) b 1 v' (by kernel_rfl) (by kernel_rfl) 64 [p, v] BL2.out (by simp) sizeBys (ownF_cells OW2.out) (ownF_one OW2.out)) ?_
 refine ldn 11 ?_
 generalize hact : Act.put _ none _ = act
 simp only [Act.put, sA, sC, sZ] at hact
 subst hact
 have FIN : Hid (BdPost B b (bs ++ [.int .u8 c]) w (w2.setCell ⟨b, 1, none⟩ v')) := ⟨Bd.put BB.out BL2.out (by rw [List.length_append]; exact OW2.out) PP.out, G1.out.setCell (p := ⟨b, 1, none⟩) BB.out _, G2.out.setCell ⟨b, 1, none⟩ rfl _⟩
 clear OW2 G1 G2 BL2
 go_wp2
 go_ret
 exact ⟨rfl, FIN.out⟩
set_option maxHeartbeats 2000000 in
theorem wstr_walk (B b : Nat) (bs : List Value) (s : List UInt8) (w : World) (h : Bd B b bs w) (hn : bs.length + s.length ≤ 1000000) (hBw : B ≤ w.heap.size) : Calls Try.prog 25 #[.pointer (some ⟨b, 0, none⟩), sT s] w fun e w' => ∃ v, e = .returned v ∧ BdPost B b (bs ++ Lib.byteCells s) w w' := by
 have H := Lib.hid h
 clear h
 have CK := bcheck_walk B b bs w H.out
 go_enter Try.func25, Try.ntmps25
 go_upto_region 0 with (fail)
 refine lbeg (opsOf Try.f25 0) ?_
 refine lnow 0 (.int .i64 0) (some 4) ?_
 refine lnow 1 (.nilIface) (some 5) ?_
 refine ldn 2 ?_
 generalize hact : Act.put _ (some 5) _ = act
 simp only [Act.put, sA, sC, sZ] at hact
 subst hact
 go_upto_region 1 with (fail)
 refine lbeg (opsOf Try.f25 1) ?_
 refine lnow 0 (.pointer (some ⟨b, 0, none⟩)) (some 6) ?_
 refine lcal 1 40 #[.pointer (some ⟨b, 0, none⟩)] (some 7) _ (CK) ?_
 rintro e w1 ⟨rfl, hd1, hb1, hk1⟩
 refine ⟨_, rfl, ?_⟩
 refine ldn 2 ?_
 generalize hact : Act.put _ (some 7) _ = act
 simp only [Act.put, sA, sC, sZ] at hact
 subst hact
 obtain ⟨p, v, hblk, hown, hne, hB, hp⟩ := Bd.parts hd1
 have BL := Lib.hid hblk
 have OW := Lib.hid hown
 have NE := Lib.hid hne
 have BB := Lib.hid hB
 have PP := Lib.hid hp
 have B1 := Lib.hid hb1
 have K1 := Lib.hid hk1
 have BW : Hid (B ≤ w1.heap.size) := Nat.le_trans hBw hb1.size
 clear hblk hown hne hB hp hb1 hk1 hd1 H CK
 obtain ⟨i0, hi, hz0, hz1, hz2⟩ := info_parts infoByX
 go_upto_region 2 with (fail)
 refine lbeg (opsOf Try.f25 2) ?_
 refine lnow 0 (.pointer (some ⟨b, 0, none⟩)) (some 8) ?_
 refine lnow 1 (.pointer (some ⟨b, 0, none⟩)) (some 9) ?_
 refine lnow 2 (.pointer (some ⟨b, 0, none⟩)) (some 10) ?_
 refine lnow 3 (.pointer (some ⟨b, 1, none⟩)) (some 11) ?_
 refine lcl 4 (v) (some 12) 62 11 (b) 1 (BL.out.cell rfl) Try.underlying62 ?_
 refine lnow 5 (sT s) (some 13) ?_
 obtain ⟨v', w2, hr, hown', hgrow, -⟩ := Lib.run_append_own_stringF (P := Try.prog) w1 B 62 9 62 5 i0 Try.underlying62 Try.underlying9 hi hz0 hz1 hz2 v bs.length bs OW.out ⟨s.toArray⟩ (by show bs.length + s.length ≤ maxLen; unfold maxLen; omega) (by show bs.length + s.length ≤ _; omega) BW.out
 refine lin_value 6 v' (some 14) w2 (by kernel_rfl) (by kernel_rfl) (exec_of (Builtin.append_ #[62, 9] 62 #[v, sT s]) _ (by kernel_rfl) hr) ?_
 have BL2 : Hid (Blk w2 b 64 [p, v]) := by have hlt := BL.out.lt; unfold Blk; rw [hgrow.block b hlt (fun e => NE.out e.symm)]; exact BL.out
 have G1 : Hid (Below B w w2) := B1.out.grown hgrow BW.out (fun k hk => (OW.out.lt k hk).1)
 have G2 : Hid (Lib.OthersKept 5 (some b) w w2) := K1.out.grown hgrow (Lib.ownsRowF_kind OW.out)
 have OW2 := Lib.hid hown'
 clear hr hown' hgrow hi hz0 hz1 hz2 BL OW B1 K1
 refine lnow 7 (.pointer (some ⟨b, 0, none⟩)) (some 15) ?_
 refine lnow 8 (.pointer (some ⟨b, 1, none⟩)) (some 16) ?_
 refine lin_store 9 (w2.setCell ⟨b, 1, none⟩ v') (by kernel_rfl) (by kernel_rfl) (exec_store_cell 62 (.tmp 16) (.tmp 14) (by kernel_rfl) b 1 v' (by kernel_rfl) (by kernel_rfl) 64 [p, v] BL2.out (by simp) sizeBys (ownF_cells OW2.out) (ownF_one OW2.out)) ?_
 refine ldn 10 ?_
 generalize hact : Act.put _ none _ = act
 simp only [Act.put, sA, sC, sZ] at hact
 subst hact
 have FIN : Hid (BdPost B b (bs ++ Lib.byteCells s) w (w2.setCell ⟨b, 1, none⟩ v')) := ⟨Bd.put BB.out BL2.out (by rw [List.length_append, Lib.byteCells_length]; exact OW2.out) PP.out, G1.out.setCell (p := ⟨b, 1, none⟩) BB.out _, G2.out.setCell ⟨b, 1, none⟩ rfl _⟩
 clear OW2 G1 G2 BL2
 generalize w2.setCell ⟨b, 1, none⟩ v' = w3 at FIN ⊢
 go_upto_region 3 with (fail)
 refine lbeg (opsOf Try.f25 3) ?_
 refine lnow 0 (sT s) (some 17) ?_
 refine lnow 1 (.int .i64 (s.length : Int)) (some 18) ?_
 refine lnow 2 (.int .i64 (s.length : Int)) (some 4) ?_
 refine lnow 3 (.nilIface) (some 5) ?_
 refine ldn 4 ?_
 generalize hact : Act.put _ (some 5) _ = act
 simp only [Act.put, sA, sC, sZ] at hact
 subst hact
 go_wp2
 refine bodyPost_ret (v := .tuple #[.int .i64 (s.length : Int), .nilIface]) (by kernel_rfl) rfl ⟨_, rfl, FIN.out⟩
end Go.Proofs.Ytdacmogedchnaaa
