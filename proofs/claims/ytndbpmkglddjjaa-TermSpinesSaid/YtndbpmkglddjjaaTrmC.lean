/- Terms and levels laid into new rows and appended to a row of the call's own: what CopyTerm, App, Bind, Spine, Strip do. -/
import Derived.Test.YtndbpmkglddjjaaTrmA
import Derived.Test.YtndbpmkglddjjaaLevB
namespace Go.Proofs.Ytndbpmkglddjjaa
open Go Go.RowKit
set_option maxRecDepth 100000

theorem infoTm : (Try.prog.info? 25).map (fun i => (i.zero, i.size, i.bytes)) = some (some (.agg #[.int .i64 0, .int .i64 0, strT [], .slice none 0 0, .slice none 0 0]), 5, 80) := by kernel_rfl
theorem infoLvS : (Try.prog.info? 49).map (fun i => (i.zero, i.size, i.bytes)) = some (some (.agg (ints .i64 z5).toArray), 5, 40) := by kernel_rfl
theorem elemTms1 : Try.prog.underlying 23 = some (.slice 25) := by kernel_rfl
theorem elemLvs1 : Try.prog.underlying 22 = some (.slice 49) := by kernel_rfl
/-- A row of one term, new. -/
theorem run_build_tm (k n : Int) (s : ByteArray) (la aa : Option Addr) (L lc N ac : Nat) (w : World) : (Instr.buildSlice 23 1 #[(0, .agg [Value.int .i64 k, .int .i64 n, .string s, .slice la L lc, .slice aa N ac].toArray)]).run Try.prog w = .ok (.slice (some ⟨w.heap.size, 0, none⟩) 1 1) (w.alloc (.cells [Value.int .i64 k, .int .i64 n, .string s, .slice la L lc, .slice aa N ac].toArray 25)) := by kernel_rfl
theorem run_build_lvx (b p0 p1 p2 p3 : Int) (w : World) : (Instr.buildSlice 22 1 #[(0, .agg (ints .i64 [b, p0, p1, p2, p3]).toArray)]).run Try.prog w = .ok (.slice (some ⟨w.heap.size, 0, none⟩) 1 1) (w.alloc (.cells (ints .i64 [b, p0, p1, p2, p3]).toArray 49)) := by kernel_rfl
/-- A row of one level, new. -/
theorem run_build_lv1 (l : Lv) (h : l.p.length = 4) (w : World) : (Instr.buildSlice 22 1 #[(0, .agg (ints .i64 l.zs).toArray)]).run Try.prog w = .ok (.slice (some ⟨w.heap.size, 0, none⟩) 1 1) (w.alloc (.cells (ints .i64 l.zs).toArray 49)) := by
  obtain ⟨b, p⟩ := l
  match p, h with
  | [p0, p1, p2, p3], _ => exact run_build_lvx b p0 p1 p2 p3 w
/-- A term, lying in a block of its own, behind a row of the call's own. -/
theorem run_append_tm {F : List Nat} {w : World} {base : Nat} {v : Value} {ts : List Tm} {t : Tm} {g : Nat} {cs : List Value} (hown : OwnT 25 F w base v ts) (hb : Blk w g 25 cs) (ht : TmAt F w t cs) (hn : (ts.length + 1) * 80 ≤ 140737488355328) (hbase : base ≤ w.heap.size) :
    ∃ v' w' ds, (Builtin.append_ #[23, 23] 23 #[v, .slice (some ⟨g, 0, none⟩) 1 1]).run Try.prog w = .ok v' w' ∧ w'.ownsRow base 25 5 v' (ts.length + 1) (ds ++ [cs]).flatten ∧ TmCells F w (ts ++ [t]) (ds ++ [cs]) ∧ w.grownBy w' v.ownBlock := by
  obtain ⟨ds, h1, h2⟩ := hown
  obtain ⟨i0, hi0, hz0, hz1, hz2⟩ := info_parts infoTm
  have hl : cs.length = 5 := ht.len
  obtain ⟨v', w', e1, e2, e3, -⟩ := run_append_own w base 23 23 25 i0 _ 5 80 elemTms1 hi0 hz0 hz1 hz2 (by rfl) (by decide) v ts.length ds.flatten h1 ⟨g, 0, none⟩ 1 1 cs (by rw [hl]) (fun j u hj => by rw [Addr.add_mid]; exact hb.whole j u hj) (fun u hu => ht.one u hu) (by unfold maxLen; omega) hn hbase
  exact ⟨v', w', ds, e1, by rw [List.flatten_append]; simpa using e2, TmCells.snoc ht h2, e3⟩
end Go.Proofs.Ytndbpmkglddjjaa
