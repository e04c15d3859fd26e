/- Terms and levels laid into new rows and appended to a row of the call's own: what CopyTerm, App, Bind, Spine, Strip do. -/
import Derived.Test.YteohjbggicchgaaBLevB
namespace Go.Proofs.Yteohjbggicchgaa
open Go Go.RowKit
set_option maxRecDepth 100000
theorem infoTm : (Try.prog.info? 25).map (fun i => (i.zero, i.size, i.bytes)) = some (some (.agg #[.int .i64 0, .int .i64 0, strT [], .slice none 0 0, .slice none 0 0]), 5, 80) := by kernel_rfl
theorem infoLvS : (Try.prog.info? 80).map (fun i => (i.zero, i.size, i.bytes)) = some (some (.agg (ints .i64 z5).toArray), 5, 40) := by kernel_rfl
theorem elemTms1 : Try.prog.underlying 23 = some (.slice 25) := by kernel_rfl
theorem elemLvs1 : Try.prog.underlying 22 = some (.slice 80) := by kernel_rfl
/-- A row of one term, new. -/
theorem run_build_tm (k n : Int) (s : ByteArray) (la aa : Option Addr) (L lc N ac : Nat) (w : World) : (Instr.buildSlice 23 1 #[(0, .agg [Value.int .i64 k, .int .i64 n, .string s, .slice la L lc, .slice aa N ac].toArray)]).run Try.prog w = .ok (.slice (some ⟨w.heap.size, 0, none⟩) 1 1) (w.alloc (.cells [Value.int .i64 k, .int .i64 n, .string s, .slice la L lc, .slice aa N ac].toArray 25)) := by kernel_rfl
theorem run_build_lvx (b p0 p1 p2 p3 : Int) (w : World) : (Instr.buildSlice 22 1 #[(0, .agg (ints .i64 [b, p0, p1, p2, p3]).toArray)]).run Try.prog w = .ok (.slice (some ⟨w.heap.size, 0, none⟩) 1 1) (w.alloc (.cells (ints .i64 [b, p0, p1, p2, p3]).toArray 80)) := by kernel_rfl
/-- A row of one level, new. -/
theorem run_build_lv1 (l : Lv) (h : l.p.length = 4) (w : World) : (Instr.buildSlice 22 1 #[(0, .agg (ints .i64 l.zs).toArray)]).run Try.prog w = .ok (.slice (some ⟨w.heap.size, 0, none⟩) 1 1) (w.alloc (.cells (ints .i64 l.zs).toArray 80)) := by
 obtain ⟨b, p⟩ := l
 match p, h with
 | [p0, p1, p2, p3], _ => exact run_build_lvx b p0 p1 p2 p3 w
end Go.Proofs.Yteohjbggicchgaa
