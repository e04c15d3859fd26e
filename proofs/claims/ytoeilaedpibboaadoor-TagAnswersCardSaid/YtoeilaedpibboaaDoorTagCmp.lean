/- The order of two digests: the library's bytes.Compare, and package tag's Compare. -/
import Derived.Test.YtoeilaedpibboaaDoorGenB
import Derived.Test.YtoeilaedpibboaaDoorShaSum
import Derived.Lib.BytesEntry
import Derived.Deep.QuietTactic
import Derived.BigQuiet
namespace Go.Proofs.YtoeilaedpibboaaDoor
open Go.RowKit
set_option maxRecDepth 100000

/-- The order of two rows of integers, place by place. -/
def cmpD : List Int → List Int → Int
  | [], [] => 0
  | [], _ :: _ => -1
  | _ :: _, [] => 1
  | a :: al, b :: bl => if a < b then -1 else if b < a then 1 else cmpD al bl
theorem byte_lt (a b : Int) (ha : 0 ≤ a ∧ a ≤ 255) (hb : 0 ≤ b ∧ b ≤ 255) : (a.toNat.toUInt8 < b.toNat.toUInt8) ↔ a < b := by
  rw [UInt8.lt_iff_toNat_lt]
  simp only [Nat.toUInt8_eq, UInt8.toNat_ofNat']
  omega
theorem compareBytes_cmpD : ∀ (xs ys : List Int), isBytes xs → isBytes ys → Lib.compareBytes (Lib.bytesOf xs) (Lib.bytesOf ys) = cmpD xs ys
  | [], [], _, _ => rfl
  | [], _ :: _, _, _ => rfl
  | _ :: _, [], _, _ => rfl
  | a :: al, b :: bl, ha, hb => by
    have h1 := byte_lt a b (ha a (by simp)) (hb b (by simp))
    have h2 := byte_lt b a (hb b (by simp)) (ha a (by simp))
    have ih := compareBytes_cmpD al bl (fun x hx => ha x (by simp [hx])) (fun x hx => hb x (by simp [hx]))
    show (if a.toNat.toUInt8 < b.toNat.toUInt8 then (-1 : Int) else if b.toNat.toUInt8 < a.toNat.toUInt8 then 1 else Lib.compareBytes (Lib.bytesOf al) (Lib.bytesOf bl)) = _
    rw [ih, show cmpD (a :: al) (b :: bl) = if a < b then -1 else if b < a then 1 else cmpD al bl from rfl]
    simp only [h1, h2]
theorem run_compareSlices {P : Program} (w : World) (b1 o1 n1 c1 b2 o2 n2 c2 : Nat) (xs ys : List Int) (hx : xs.length = n1) (hy : ys.length = n2) (h1 : w.rangeAt b1 o1 (ints .u8 xs)) (h2 : w.rangeAt b2 o2 (ints .u8 ys)) (bx : isBytes xs) (by' : isBytes ys) :
    (Extern.BytealgCompare.compare #[.slice (some ⟨b1, o1, none⟩) n1 c1, .slice (some ⟨b2, o2, none⟩) n2 c2]).run P w = .ok (.int .i64 (cmpD xs ys)) w := by
  have l1 := Lib.run_loadBytesX (P := P) w xs ⟨b1, o1, none⟩ .empty (fun j x hj => by rw [Addr.add_mid]; exact h1 j _ (ints_get hj))
  have l2 := Lib.run_loadBytesX (P := P) w ys ⟨b2, o2, none⟩ .empty (fun j x hj => by rw [Addr.add_mid]; exact h2 j _ (ints_get hj))
  rw [hx] at l1
  rw [hy] at l2
  change Sem.run P (do pure (goInt (Extern.BytealgCompare.cmp (← Extern.Bytes.bytesOf (.slice (some ⟨b1, o1, none⟩) n1 c1)) (← Extern.Bytes.bytesOf (.slice (some ⟨b2, o2, none⟩) n2 c2))))) w = _
  simp only [Extern.Bytes.bytesOf, Sem.run_bind, Sem.run_pure, l1, l2, Result.andThen]
  rw [Lib.cmp_eq]
  have e : ∀ zs : List Int, (ByteArray.empty.data ++ (Lib.bytesOf zs).toArray).toList = Lib.bytesOf zs := fun zs => by
    show ((#[] : Array UInt8) ++ (Lib.bytesOf zs).toArray).toList = _
    simp
  rw [e, e, compareBytes_cmpD xs ys bx by']
  rfl
theorem bcompare_walk (b1 o1 n1 c1 b2 o2 n2 c2 : Nat) (xs ys : List Int) (hx : xs.length = n1) (hy : ys.length = n2) (w : World) (h1 : w.rangeAt b1 o1 (ints .u8 xs)) (h2 : w.rangeAt b2 o2 (ints .u8 ys)) (bx : isBytes xs) (by' : isBytes ys) :
    Calls Tryd.prog 26 #[.slice (some ⟨b1, o1, none⟩) n1 c1, .slice (some ⟨b2, o2, none⟩) n2 c2] w fun e w' => e = .returned (.int .i64 (cmpD xs ys)) ∧ w = w' := by
  have hrun : (callFunc 38 #[.slice (some ⟨b1, o1, none⟩) n1 c1, .slice (some ⟨b2, o2, none⟩) n2 c2]).run Tryd.prog w = .ok (.value (.int .i64 (cmpD xs ys))) w := by
    rw [run_callFunc_extern Tryd.func38 (by kernel_rfl) (by kernel_rfl) (by kernel_rfl) (e := Extern.BytealgCompare.compare) (by kernel_rfl), run_compareSlices w b1 o1 n1 c1 b2 o2 n2 c2 xs ys hx hy h1 h2 bx by']
    rfl
  clear h1 h2 bx by' hx hy
  go_enter Tryd.func26, Tryd.ntmps26
  go_wp2
  go_ret
  exact ⟨rfl, rfl⟩
theorem below_drewN' (w : World) (n : Nat) : Below w.heap.size w (w.drewN n) := ⟨rfl, rfl, rfl, Nat.le_refl _, fun _ _ => rfl⟩
theorem tcompare_walk (xs ys : List Int) (hx : xs.length = 32) (hy : ys.length = 32) (bx : isBytes xs) (by' : isBytes ys) (w : World) :
    Calls Tryd.prog 11 #[.agg (ints .u8 xs).toArray, .agg (ints .u8 ys).toArray] w fun e w' => e = .returned (.int .i64 (cmpD xs ys)) ∧ Below w.heap.size w w' := by
  have B0 : Hid (∀ n, Blk (((w.alloc (.cells (ints .u8 xs).toArray 24)).alloc (.cells (ints .u8 ys).toArray 24)).drewN n) w.heap.size 24 (ints .u8 xs)) := fun n => (Blk.new _ _ _).alloc _
  have B1 : Hid (∀ n, Blk (((w.alloc (.cells (ints .u8 xs).toArray 24)).alloc (.cells (ints .u8 ys).toArray 24)).drewN n) (w.heap.size + 1) 24 (ints .u8 ys)) := fun n => Blk.new2 _ _ _ _ _ (by simp) rfl
  have BE : Hid (Below w.heap.size w ((w.alloc (.cells (ints .u8 xs).toArray 24)).alloc (.cells (ints .u8 ys).toArray 24))) := ((Below.refl _ _).alloc (Nat.le_refl _) _).alloc (by simp) _
  have HX := Lib.hid hx
  have HY := Lib.hid hy
  have BX := Lib.hid bx
  have BY := Lib.hid by'
  clear hx hy bx by'
  go_enter Tryd.func11, Tryd.ntmps11
  go_wp2
  go_quiet ((go_at_call 26; exact Calls.quiet_of_same ((bcompare_walk w.heap.size 0 32 32 (w.heap.size + 1) 0 32 32 xs ys HX.out HY.out _ (B0.out _).whole (B1.out _).whole BX.out BY.out).mono fun _ _ ⟨h1, h2⟩ => ⟨h1, h2.symm⟩)))
  go_wp2
  go_ret
  exact ⟨rfl, BE.out.trans ((below_drewN' _ _).mono BE.out.size)⟩
end Go.Proofs.YtoeilaedpibboaaDoor
