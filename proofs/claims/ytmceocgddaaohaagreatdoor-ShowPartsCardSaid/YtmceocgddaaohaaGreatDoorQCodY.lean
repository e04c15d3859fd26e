/- What is read under a recover: a number, a library. -/
import Derived.Test.YtmceocgddaaohaaGreatDoorQCodX
import Derived.Test.YtmceocgddaaohaaGreatDoorCodSh
namespace Go.Proofs.YtmceocgddaaohaaGreatDoor
open Go Go.RowKit
set_option maxRecDepth 100000
theorem infoDc : (Tryz.prog.info? 46).map (fun i => (i.zero, i.size, i.bytes)) = some (some (.agg zD.toArray), 15, 224) := by kernel_rfl
theorem elemDcs1 : Tryz.prog.underlying 40 = some (.slice 46) := by kernel_rfl
/-- Declarations and their cells. -/
def DcCells (F : List Nat) (w : World) : List Dc → List (List Value) → Prop
 | [], [] => True
 | d :: ds, c :: cs => DcAt F w d c ∧ DcCells F w ds cs
 | _, _ => False
theorem DcCells.step {F F' : List Nat} {w w' : World} (hs : Step F w F' w') : ∀ {ds : List Dc} {cs : List (List Value)}, DcCells F w ds cs → DcCells F' w' ds cs
 | [], [], _ => trivial
 | _ :: _, _ :: _, h => ⟨h.1.step hs, DcCells.step hs h.2⟩
 | [], _ :: _, h => h.elim
 | _ :: _, [], h => h.elim
theorem DcCells.flat {F : List Nat} {w : World} : ∀ {ds : List Dc} {cs : List (List Value)}, DcCells F w ds cs → cs.flatten.length = 15 * ds.length
 | [], [], _ => rfl
 | d :: ds, c :: cs, h => by
  have := DcCells.flat h.2
  rw [List.flatten_cons, List.length_append, this, h.1.len, List.length_cons]
  omega
 | [], _ :: _, h => h.elim
 | _ :: _, [], h => h.elim
theorem DcCells.at {F : List Nat} {w : World} : ∀ {ds : List Dc} {cs : List (List Value)} {i : Nat} {d : Dc}, DcCells F w ds cs → ds[i]? = some d → ∃ c, DcAt F w d c ∧ ∀ (j : Nat) (u : Value), c[j]? = some u → cs.flatten[15 * i + j]? = some u
 | [], _, _, _, _, h => by simp at h
 | x :: ds, [], _, _, h, _ => h.elim
 | x :: ds, c :: cs, 0, d, h, hd => by
  obtain rfl : x = d := by simpa using hd
  refine ⟨c, h.1, fun j u hu => ?_⟩
  have hj := (List.getElem?_eq_some_iff.1 hu).1
  rw [List.flatten_cons, List.getElem?_append_left (by omega)]
  simpa using hu
 | x :: ds, c :: cs, i + 1, d, h, hd => by
  obtain ⟨c', h1, h2⟩ := DcCells.at (i := i) h.2 (by simpa using hd)
  refine ⟨c', h1, fun j u hu => ?_⟩
  rw [List.flatten_cons, List.getElem?_append_right (by rw [h.1.len]; omega), h.1.len, show 15 * (i + 1) + j - 15 = 15 * i + j by omega]
  exact h2 j u hu
end Go.Proofs.YtmceocgddaaohaaGreatDoor
