/- The reference's constants are the table's: reckoned by the kernel, four roots at a time. -/
import Derived.Test.YtoeilaedpibboaaDoorShaRefT
namespace Go.Proofs.YtoeilaedpibboaaDoor
open Go.RowKit
set_option maxRecDepth 100000
theorem cuK0 : [2, 3, 5, 7].map cuW = [1116352408, 1899447441, 3049323471, 3921009573] := by kernel_rfl
theorem cuK1 : [11, 13, 17, 19].map cuW = [961987163, 1508970993, 2453635748, 2870763221] := by kernel_rfl
theorem cuK2 : [23, 29, 31, 37].map cuW = [3624381080, 310598401, 607225278, 1426881987] := by kernel_rfl
theorem cuK3 : [41, 43, 47, 53].map cuW = [1925078388, 2162078206, 2614888103, 3248222580] := by kernel_rfl
theorem cuK4 : [59, 61, 67, 71].map cuW = [3835390401, 4022224774, 264347078, 604807628] := by kernel_rfl
theorem cuK5 : [73, 79, 83, 89].map cuW = [770255983, 1249150122, 1555081692, 1996064986] := by kernel_rfl
theorem cuK6 : [97, 101, 103, 107].map cuW = [2554220882, 2821834349, 2952996808, 3210313671] := by kernel_rfl
theorem cuK7 : [109, 113, 127, 131].map cuW = [3336571891, 3584528711, 113926993, 338241895] := by kernel_rfl
theorem cuK8 : [137, 139, 149, 151].map cuW = [666307205, 773529912, 1294757372, 1396182291] := by kernel_rfl
theorem cuK9 : [157, 163, 167, 173].map cuW = [1695183700, 1986661051, 2177026350, 2456956037] := by kernel_rfl
theorem cuK10 : [179, 181, 191, 193].map cuW = [2730485921, 2820302411, 3259730800, 3345764771] := by kernel_rfl
theorem cuK11 : [197, 199, 211, 223].map cuW = [3516065817, 3600352804, 4094571909, 275423344] := by kernel_rfl
theorem cuK12 : [227, 229, 233, 239].map cuW = [430227734, 506948616, 659060556, 883997877] := by kernel_rfl
theorem cuK13 : [241, 251, 257, 263].map cuW = [958139571, 1322822218, 1537002063, 1747873779] := by kernel_rfl
theorem cuK14 : [269, 271, 277, 281].map cuW = [1955562222, 2024104815, 2227730452, 2361852424] := by kernel_rfl
theorem cuK15 : [283, 293, 307, 311].map cuW = [2428436474, 2756734187, 3204031479, 3329325298] := by kernel_rfl
theorem primes64 : prAll 64 320 2 [] = [2, 3, 5, 7] ++ ([11, 13, 17, 19] ++ ([23, 29, 31, 37] ++ ([41, 43, 47, 53] ++ ([59, 61, 67, 71] ++ ([73, 79, 83, 89] ++ ([97, 101, 103, 107] ++ ([109, 113, 127, 131] ++ ([137, 139, 149, 151] ++ ([157, 163, 167, 173] ++ ([179, 181, 191, 193] ++ ([197, 199, 211, 223] ++ ([227, 229, 233, 239] ++ ([241, 251, 257, 263] ++ ([269, 271, 277, 281] ++ ([283, 293, 307, 311]))))))))))))))) := by kernel_rfl
theorem coTo_map (ps : List Int) (k : Nat) (hk : k ≤ ps.length) : coTo ps k = (ps.take k).map cuW := by
  induction k with
  | zero => simp [coTo]
  | succ k ih =>
    rw [coTo, ih (by omega), List.take_add_one, List.map_append]
    have : ps[k]? = some ps[k] := List.getElem?_eq_getElem (by omega)
    rw [this]; rfl
theorem coTo_K : coTo (prAll 64 320 2 []) 64 = Sha.K := by
  rw [coTo_map _ _ (by rw [prAll_64]; exact Nat.le_refl _), List.take_of_length_le (by rw [prAll_64]; exact Nat.le_refl _), primes64]
  simp only [List.map_append]
  rw [cuK0, cuK1, cuK2, cuK3, cuK4, cuK5, cuK6, cuK7, cuK8, cuK9, cuK10, cuK11, cuK12, cuK13, cuK14, cuK15]
  rfl
theorem constants_walk (w : World) :
    Calls Tryd.prog 59 #[] w fun e w' => ∃ v, e = .returned v ∧ Own w' w.heap.size 67 .u32 v Sha.K ∧ Below w.heap.size w w' := by
  have := constants_any (prAll 64 320 2 []) (Lib.hid rfl) prAll_64 w
  rwa [coTo_K] at this
end Go.Proofs.YtoeilaedpibboaaDoor
