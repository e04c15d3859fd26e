/- What is packed is unpacked: plain lemmas; nothing about the program. -/
import Derived.Test.YtngpmilojfbpmaaDoorSealG
namespace Go.Proofs.YtngpmilojfbpmaaDoor
open Go Go.RowKit

theorem packF_length (gen num : Nat) (rec : List Int) : (packF gen num rec).length = 64 * needN rec.length := packK_length _ _ _ _
theorem packF_bytes (gen num : Nat) {rec : List Int} (h : isBytes rec) : isBytes (packF gen num rec) := packK_bytes _ _ (recB_bytes h) _
theorem packF_get (gen num : Nat) (rec : List Int) {i : Nat} (h : i < needN rec.length) : getB (packF gen num rec) i = sectorP (markP gen (num + i)) (cutP (recB rec) i) := packK_get _ _ _ _ h
theorem getB_append {a b : List Int} {n i : Nat} (hl : a.length = 64 * n) (hi : i < n) : getB (a ++ b) i = getB a i := by
  unfold getB
  rw [List.drop_append_of_le_length (by omega), List.take_append_of_le_length (by rw [List.length_drop]; omega)]
theorem getB_behind {a b : List Int} {n i : Nat} (hl : a.length = 64 * n) : getB (a ++ b) (n + i) = getB b i := by
  unfold getB
  rw [show 64 * (n + i) = a.length + 64 * i by omega, ← List.drop_drop, List.drop_left]
theorem sectorP_room {m data : List Int} (hm : m.length = 8) (hd : data.length ≤ 46) : ((sectorP m data).drop 10).take 46 = data ++ zeros (46 - data.length) := by
  unfold sectorP
  rw [show (10 : Nat) = m.length + 2 by omega, ← List.drop_drop, List.drop_left, List.drop_append_of_le_length (by rw [beB_length]; omega), List.drop_eq_nil_of_le (by rw [beB_length]; omega), List.nil_append, ← List.append_assoc, List.take_append_of_le_length (by rw [List.length_append, zeros_length]; omega), List.take_of_length_le (by rw [List.length_append, zeros_length]; omega)]
theorem cut_room (all : List Int) (k : Nat) (hk : 46 * k ≤ all.length) : cutP all k ++ zeros (46 - (cutP all k).length) = ((all ++ zeros 46).drop (46 * k)).take 46 := by
  unfold cutP
  rw [List.drop_append_of_le_length hk, List.take_append, List.length_take, List.length_drop]
  congr 1
  unfold zeros
  rw [List.take_replicate]
  congr 1
  omega
theorem dataK_pack {gen num : Nat} {rec L : List Int} (hL : ∀ i, i < needN rec.length → getB L i = getB (packF gen num rec) i) : ∀ k, k ≤ needN rec.length → dataK L k = (recB rec ++ zeros 46).take (46 * k)
  | 0, _ => by rw [dataK, Nat.mul_zero, List.take_zero]
  | k + 1, h => by
    rw [dataK, dataK_pack hL k (by omega), hL k (by omega), packF_get gen num rec (by omega), sectorP_room (markP_length _ _) (cutP_le _ _), cut_room (recB rec) k (by rw [recB_length]; unfold needN at h; omega), ← List.take_add, show 46 * k + 46 = 46 * (k + 1) by omega]
theorem getB_zero (L : List Int) : (getB L 0).drop 10 = (L.drop 10).take 54 := by
  unfold getB
  rw [Nat.mul_zero, List.drop_zero, List.drop_take]
theorem size_pack {gen num : Nat} {rec L : List Int} (hr : rec.length ≤ 2000) (hL : getB L 0 = getB (packF gen num rec) 0) : sizeP L = rec.length := by
  have h1 : (L.drop 10).take 2 = ((getB L 0).drop 10).take 2 := by rw [getB_zero, List.take_take]; rfl
  have h2 : ((getB L 0).drop 10).take 2 = (((getB L 0).drop 10).take 46).take 2 := by rw [List.take_take]; rfl
  unfold sizeP
  rw [h1, h2, hL, packF_get gen num rec (needN_pos _), sectorP_room (markP_length _ _) (cutP_le _ _), cut_room _ 0 (by omega), Nat.mul_zero, List.drop_zero, List.take_take, show min 2 46 = 2 from rfl]
  unfold recB
  rw [List.append_assoc, List.append_assoc, List.take_append_of_le_length (by rw [beB_length]; omega), List.take_of_length_le (by rw [beB_length]; omega), numB_beB 2 _ (by omega)]
  omega
theorem rec_pack {gen num : Nat} {rec L : List Int} (hr : rec.length ≤ 2000) (hL : ∀ i, i < needN rec.length → getB L i = getB (packF gen num rec) i) : recP L = rec := by
  unfold recP
  rw [size_pack hr (hL 0 (needN_pos _)), dataK_pack hL _ (Nat.le_refl _), List.drop_take, List.take_take]
  unfold recB
  rw [List.append_assoc, List.append_assoc, List.drop_append_of_le_length (by rw [beB_length]; omega), List.drop_eq_nil_of_le (by rw [beB_length]; omega), List.nil_append, show min rec.length (46 * needN rec.length - 2) = rec.length by unfold needN; omega, List.take_left]
theorem unp_pack {gen num : Nat} {rec tail : List Int} {n : Nat} (hok : okPack (gen : Int) (num : Int) rec.length) (hn : needN rec.length ≤ n) : sizeP (packF gen num rec ++ tail) = rec.length ∧ recP (packF gen num rec ++ tail) = rec ∧ unpOk (gen : Int) (num : Int) (packF gen num rec ++ tail) n := by
  have hL : ∀ i, i < needN rec.length → getB (packF gen num rec ++ tail) i = getB (packF gen num rec) i := fun i hi => getB_append (packF_length _ _ _) hi
  have h1 := size_pack hok.1 (hL 0 (needN_pos _))
  have h2 := rec_pack hok.1 hL
  refine ⟨h1, h2, ?_⟩
  unfold unpOk
  rw [h1, h2, Int.toNat_natCast, Int.toNat_natCast]
  refine ⟨Nat.le_trans (needN_pos _) hn, hok.1, hn, hok, ?_⟩
  rw [← packF_length gen num rec, List.take_left]
/-- The sectors of a record in another form are not read as that record. -/
theorem unp_other {gen num : Int} {rec L : List Int} (hl : L.length = 64 * needN rec.length) (hne : L ≠ packF gen.toNat num.toNat rec) (h : unpOk gen num L (needN rec.length)) : recP L ≠ rec := fun e => by
  obtain ⟨h1, h2, h3, h4, h5⟩ := h
  have h6 := recP_length hl h3
  rw [e] at h5 h6
  rw [← h6, List.take_of_length_le (by omega)] at h5
  exact hne h5.symm
theorem set_cut (l : List Int) (i a b : Nat) (v : Int) (h : i < a ∨ a + b ≤ i) : ((l.set i v).drop a).take b = (l.drop a).take b := by
  apply List.ext_getElem?
  intro j
  rw [List.getElem?_take, List.getElem?_take]
  split
  · rw [List.getElem?_drop, List.getElem?_drop, List.getElem?_set_ne (by omega)]
  · rfl
theorem gen_sector {gen num : Nat} {data : List Int} (hg : gen < 4294967296) : genP (sectorP (markP gen num) data) = (gen : Int) := by
  unfold genP
  rw [sectorP_mark (markP_length _ _)]
  unfold markP
  rw [List.take_append_of_le_length (by rw [beB_length]; omega), List.take_of_length_le (by rw [beB_length]; omega), numB_beB 4 _ (by omega)]
theorem num_sector {gen num : Nat} {data : List Int} (hn : num < 4294967296) : numP (sectorP (markP gen num) data) = (num : Int) := by
  unfold numP
  rw [sectorP_mark (markP_length _ _)]
  unfold markP
  rw [List.drop_append_of_le_length (by rw [beB_length]; omega), List.drop_eq_nil_of_le (by rw [beB_length]; omega), List.nil_append, numB_beB 4 _ (by omega)]
theorem end_sector {gen num : Nat} {data : List Int} (hd : data.length ≤ 46) (hg : gen < 4294967296) : endP (sectorP (markP gen num) data) = (gen : Int) := by
  unfold endP
  rw [sectorP_last (markP_length _ _) hd]
  unfold markP
  rw [List.take_append_of_le_length (by rw [beB_length]; omega), List.take_of_length_le (by rw [beB_length]; omega), numB_beB 4 _ (by omega)]
end Go.Proofs.YtngpmilojfbpmaaDoor
