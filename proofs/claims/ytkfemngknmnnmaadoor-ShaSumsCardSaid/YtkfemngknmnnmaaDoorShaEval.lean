/- The digests of the empty message, of abc and of abcd begin with the bytes that the standard's examples give: reckoned by the kernel. -/
import Derived.Test.YtkfemngknmnnmaaDoorShaMath
namespace Go.Proofs.YtkfemngknmnnmaaDoor
open Go
set_option maxRecDepth 100000
theorem k_abc : (Sha.sum [97, 98, 99]).take 4 = [186, 120, 22, 191] := by decide +kernel
theorem k_nil : (Sha.sum []).take 4 = [227, 176, 196, 66] := by decide +kernel
theorem k_abcd : (Sha.sum [97, 98, 99, 100]).take 1 = [136] := by decide +kernel
end Go.Proofs.YtkfemngknmnnmaaDoor
