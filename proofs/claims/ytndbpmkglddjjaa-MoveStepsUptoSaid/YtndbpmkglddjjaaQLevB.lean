/- Package level: two levels are equal for the program just if they are one. -/
import Derived.Test.YtndbpmkglddjjaaQLevA
namespace Go.Proofs.Ytndbpmkglddjjaa
open Go Go.RowKit
set_option maxRecDepth 100000
noncomputable def lvF0 : Field := (Try.prog.fieldsOf 49)[0]!
noncomputable def lvF1 : Field := (Try.prog.fieldsOf 49)[1]!
theorem lvFs : (Try.prog.fieldsOf 49).toList = [lvF0, lvF1] := by kernel_rfl
theorem lvF0n : lvF0.name = "Base" := by kernel_rfl
theorem lvF1n : lvF1.name = "Plus" := by kernel_rfl
theorem lvF0t : lvF0.type = 3 := by kernel_rfl
theorem lvF1t : lvF1.type = 47 := by kernel_rfl
theorem lvF0o : lvF0.offset = 0 := by kernel_rfl
theorem lvF1o : lvF1.offset = 1 := by kernel_rfl
theorem run_part_p {b : Int} {p : List Int} (h : p.length = 4) (w : World) : (part 47 (ints .i64 (b :: p)).toArray 1).run Try.prog w = .ok (.agg (ints .i64 p).toArray) w := by
  have hag : (isAgg 47).run Try.prog w = .ok true w := by kernel_rfl
  have hz : (sizeOf 47).run Try.prog w = .ok 4 w := by kernel_rfl
  unfold part
  simp only [Sem.run_bind, hag, Result.andThen_ok, if_true, hz, Sem.run_pure]
  have e : (ints .i64 (b :: p)).toArray.extract 1 (1 + 4) = (ints .i64 p).toArray :=
    match p, h with
    | [_, _, _, _], _ => rfl
  rw [e]
theorem run_eq_lv {a b : Lv} (ha : a.p.length = 4) (hb : b.p.length = 4) (w : World) : (Op.equalIn 10000 49 (.agg (ints .i64 a.zs).toArray) (.agg (ints .i64 b.zs).toArray)).run Try.prog w = .ok (decide (a = b)) w := by
  rw [show (10000 : Nat) = 9999 + 1 from rfl, run_equalIn_struct w 9999 _ _ _ (by kernel_rfl) (by kernel_rfl), lvFs]
  have h1 := run_part_ints w Try.underlying3 a.zs 0 (by simp [Lv.zs])
  have h2 := run_part_ints w Try.underlying3 b.zs 0 (by simp [Lv.zs])
  have h3 := run_part_p (b := a.b) ha w
  have h4 := run_part_p (b := b.b) hb w
  have h5 := run_equalIn_int w 9998 3 .i64 .i64 a.b b.b Try.underlying3
  have h6 : (Op.equalIn 9999 47 (.agg (ints .i64 a.p).toArray) (.agg (ints .i64 b.p).toArray)).run Try.prog w = .ok (decide (a.p = b.p)) w := run_equalIn_ints w 9997 Try.underlying47 Try.underlying3 sizeInt a.p b.p ha hb
  have e1 : a.zs.getD 0 0 = a.b := rfl
  have e2 : b.zs.getD 0 0 = b.b := rfl
  have n0 : lvF0.name ≠ "_" := by rw [lvF0n]; decide
  have n1 : lvF1.name ≠ "_" := by rw [lvF1n]; decide
  rw [e1] at h1
  rw [e2] at h2
  have h5' : (Op.equalIn 9999 3 (.int .i64 a.b) (.int .i64 b.b)).run Try.prog w = .ok (a.b == b.b) w := h5
  unfold Op.eqFields
  rw [if_pos n0]
  simp only [Sem.run_bind, lvF0t, lvF0o, h1, h2, Result.andThen_ok, h5']
  cases hq : (a.b == b.b)
  · rw [if_pos (by rfl)]
    rw [decide_eq_false (fun e => by rw [e] at hq; simp at hq)]
    rfl
  · have e : a.b = b.b := by simpa using hq
    rw [if_neg (by decide)]
    unfold Op.eqFields
    rw [if_pos n1]
    have h3' : (part 47 (ints .i64 a.zs).toArray 1).run Try.prog w = .ok (.agg (ints .i64 a.p).toArray) w := h3
    have h4' : (part 47 (ints .i64 b.zs).toArray 1).run Try.prog w = .ok (.agg (ints .i64 b.p).toArray) w := h4
    simp only [Sem.run_bind, lvF1t, lvF1o, h3', h4', Result.andThen_ok, h6]
    by_cases hp : a.p = b.p
    · rw [decide_eq_true hp, if_neg (by decide)]
      have : a = b := by
        obtain ⟨ab, ap⟩ := a
        obtain ⟨bb, bp⟩ := b
        simp only at e hp
        rw [e, hp]
      rw [decide_eq_true this]
      rfl
    · rw [decide_eq_false hp, if_pos (by rfl)]
      rw [decide_eq_false (fun e => hp (by rw [e]))]
      rfl
end Go.Proofs.Ytndbpmkglddjjaa
