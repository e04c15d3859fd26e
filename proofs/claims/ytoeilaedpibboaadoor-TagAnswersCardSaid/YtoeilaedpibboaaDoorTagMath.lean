/- What is framed is told by Unframe: plain lemmas on lists; nothing about the program. -/
import Derived.Test.YtoeilaedpibboaaDoorTagUfr
namespace Go.Proofs.YtoeilaedpibboaaDoor
open Go Go.RowKit

theorem numB_num4 (n : Nat) (h : n < 4294967296) (r : List Int) : numB (num4 n ++ r) = n := by
  have e0 : (num4 n ++ r).getD 0 0 = (n : Int) % 256 := rfl
  have e1 : (num4 n ++ r).getD 1 0 = (n : Int) / 256 % 256 := rfl
  have e2 : (num4 n ++ r).getD 2 0 = (n : Int) / 65536 % 256 := rfl
  have e3 : (num4 n ++ r).getD 3 0 = (n : Int) / 16777216 := rfl
  unfold numB
  rw [e0, e1, e2, e3]
  omega
theorem cutP_part (zs r : List Int) (h : zs.length < 4294967296) : cutP (part4 zs ++ r) = some (zs, r) := by
  have hn : numB (part4 zs ++ r) = zs.length := by rw [part4, List.append_assoc]; exact numB_num4 _ h _
  have hl : (part4 zs ++ r).length = 4 + (zs.length + r.length) := by simp [part4, num4_length]
  have hd : (part4 zs ++ r).drop 4 = zs ++ r := by
    rw [part4, List.append_assoc]
    exact List.drop_left' (num4_length _)
  rw [cutP, if_neg (by omega), hn, if_neg (by omega), hd]
  simp
theorem unfTo_parts (zss : List (List Int)) (h : ∀ zs ∈ zss, zs.length < 4294967296) (r : List Int) : unfTo zss.length ((zss.map part4).flatten ++ r) = some (zss, r) := by
  induction zss with
  | nil => rfl
  | cons z zss ih =>
    rw [List.length_cons, List.map_cons, List.flatten_cons, List.append_assoc, unfTo_some _ _ z _ (cutP_part z _ (h z (by simp))), ih (fun zs hz => h zs (by simp [hz]))]
    rfl
/-- What is framed is told. -/
theorem unframe_frame (zss : List (List Int)) (hl : zss.length < 4294967296) (h : ∀ zs ∈ zss, zs.length < 4294967296) : unframeL (frameL zss) = some zss := by
  have hf : frameL zss = num4 zss.length ++ ((zss.map part4).flatten ++ []) := by rw [frameL, frameTo, List.take_length, List.append_nil]
  rw [unframeL, if_neg (by rw [frameL_length]; omega), hf, numB_num4 _ hl, List.drop_left' (num4_length _), unfTo_parts zss h]
  rfl
theorem num4_bytes (n : Nat) (h : n < 4294967296) : isBytes (num4 n) := fun x hx => by
  simp only [num4, List.mem_cons, List.not_mem_nil, or_false] at hx
  rcases hx with rfl | rfl | rfl | rfl <;> omega
theorem isBytes.append {a b : List Int} (ha : isBytes a) (hb : isBytes b) : isBytes (a ++ b) := fun x hx => by
  rcases List.mem_append.1 hx with h | h
  · exact ha x h
  · exact hb x h
theorem frameL_bytes (zss : List (List Int)) (hl : zss.length < 4294967296) (h : ∀ zs ∈ zss, zs.length < 4294967296 ∧ isBytes zs) : isBytes (frameL zss) := by
  rw [frameL, frameTo, List.take_length]
  refine (num4_bytes _ hl).append fun x hx => ?_
  obtain ⟨l, hl1, hx1⟩ := List.mem_flatten.1 hx
  obtain ⟨zs, hz, rfl⟩ := List.mem_map.1 hl1
  exact ((num4_bytes _ (h zs hz).1).append (h zs hz).2) x hx1
/-- Two frames are one just if their parts are. -/
theorem frameL_inj (a b : List (List Int)) (ha : a.length < 4294967296) (ha2 : ∀ zs ∈ a, zs.length < 4294967296) (hb : b.length < 4294967296) (hb2 : ∀ zs ∈ b, zs.length < 4294967296) : frameL a = frameL b ↔ a = b := by
  constructor
  · intro h
    have h1 := unframe_frame a ha ha2
    rw [h, unframe_frame b hb hb2] at h1
    exact (Option.some.inj h1).symm
  · rintro rfl; rfl
end Go.Proofs.YtoeilaedpibboaaDoor
