/- The library's SortFunc over whatever digests (the shelf's contract), in package tag's order. -/
import Derived.Test.YtoeilaedpibboaaDoorTagOrd
import Derived.Test.YtoeilaedpibboaaDoorTagSort
import Derived.Test.YtoeilaedpibboaaDoorTagSh
import Derived.Shelf.SlSortCmp.WholeK
namespace Go.Proofs.YtoeilaedpibboaaDoor
open Go.RowKit Go.Sort
set_option maxRecDepth 100000

abbrev DgT := { d : List Int // d.length = 32 ∧ isBytes d }
instance : Inhabited DgT := ⟨⟨List.replicate 32 0, by simp, fun x hx => by rw [List.eq_of_mem_replicate hx]; decide⟩⟩
def encG (x : DgT) : List Value := ints .u8 x.val
def cmpG (x y : DgT) : Int := cmpD x.val y.val
theorem encG_len (x : DgT) : (encG x).length = 32 := by unfold encG; rw [ints_length, x.2.1]
theorem ltG (x y : DgT) : Go.Proofs.ltOf cmpG x y = decide (cmpD x.val y.val < 0) := rfl
theorem swoG : SWO (Go.Proofs.ltOf cmpG) where
  irrefl x := by rw [ltG, cmpD_self]; rfl
  trans x y z h1 h2 := by
    rw [ltG] at *
    exact decide_eq_true (cmpD_trans _ _ _ (of_decide_eq_true h1) (of_decide_eq_true h2))
  ntrans x y z h1 h2 := by
    rw [ltG] at *
    have a := of_decide_eq_false h1
    have b := of_decide_eq_false h2
    refine decide_eq_false fun c => ?_
    have h3 : cmpD z.val y.val ≤ 0 := by have := cmpD_swap y.val z.val; omega
    have h4 := cmpD_lt_le c h3
    exact a h4
theorem tcompare_exact (xs ys : List Int) (hx : xs.length = 32) (hy : ys.length = 32) (bx : isBytes xs) (by' : isBytes ys) (w : World) :
    Calls Tryd.prog 11 #[.agg (ints .u8 xs).toArray, .agg (ints .u8 ys).toArray] w fun e w' => e = .returned (.int .i64 (cmpD xs ys)) ∧ ∃ q os', w' = grow (w.drewN q) os' := by
  have B0 : Hid (∀ n, Blk (((w.alloc (.cells (ints .u8 xs).toArray 24)).alloc (.cells (ints .u8 ys).toArray 24)).drewN n) w.heap.size 24 (ints .u8 xs)) := fun n => (Blk.new _ _ _).alloc _
  have B1 : Hid (∀ n, Blk (((w.alloc (.cells (ints .u8 xs).toArray 24)).alloc (.cells (ints .u8 ys).toArray 24)).drewN n) (w.heap.size + 1) 24 (ints .u8 ys)) := fun n => Blk.new2 _ _ _ _ _ (by simp) rfl
  have EQ : Hid (∀ n, ((w.alloc (.cells (ints .u8 xs).toArray 24)).alloc (.cells (ints .u8 ys).toArray 24)).drewN n = grow (w.drewN n) #[.cells (ints .u8 xs).toArray 24, .cells (ints .u8 ys).toArray 24]) := fun n => by rw [alloc_eq_grow, alloc_eq_grow, grow_grow]; rfl
  have HX := Lib.hid hx
  have HY := Lib.hid hy
  have BX := Lib.hid bx
  have BY := Lib.hid by'
  clear hx hy bx by'
  go_enter Tryd.func11, Tryd.ntmps11
  go_wp2
  go_quiet ((go_at_call 26; exact Calls.quiet_of_same ((bcompare_walk w.heap.size 0 32 32 (w.heap.size + 1) 0 32 32 xs ys HX.out HY.out _ (B0.out _).whole (B1.out _).whole BX.out BY.out).mono fun _ _ ⟨h1, h2⟩ => ⟨h1, h2.symm⟩)))
  go_wp2
  go_ret
  exact ⟨rfl, _, _, EQ.out _⟩
theorem cmpLaysG (blk off size : Nat) (w : World) : Go.Proofs.CmpLays Tryd.prog 11 #[] encG 32 cmpG blk off size w :=
  fun _ _ _ _ x y => tcompare_exact x.val y.val x.2.1 y.2.1 x.2.2 y.2.2 _
def arrG (ds : List (List Int)) (hok : okD ds) : Array DgT := (ds.attach.map fun x => (⟨x.1, hok x.1 x.2⟩ : DgT)).toArray
theorem arrG_size (ds : List (List Int)) (hok : okD ds) : (arrG ds hok).size = ds.length := by simp [arrG]
theorem arrG_vals (ds : List (List Int)) (hok : okD ds) : (arrG ds hok).toList.map (·.val) = ds := by simp [arrG]
theorem getG (d : Array DgT) {i : Nat} (hi : i < d.size) : (d.toList.map (·.val))[i]? = some d[i]!.val := by
  rw [List.getElem?_map, Array.getElem?_toList, Array.getElem?_eq_getElem hi, getElem!_pos d i hi]
  rfl
theorem flatG (d : Array DgT) (t : Nat) (ht : t < d.size * 32) : (ints .u8 (d.toList.map (·.val)).flatten)[t]? = some (flatK encG 32 d)[t]! := by
  have h32 : all32 (d.toList.map (·.val)) := fun x hx => by
    obtain ⟨y, -, rfl⟩ := List.mem_map.1 hx
    exact y.2.1
  have hq : t / 32 < d.size := by omega
  have hm : t % 32 < 32 := Nat.mod_lt _ (by decide)
  rw [get_flatK encG 32 d t ht]
  have h1 := flat32_at h32 (getG d hq)
  have h2 : ((ints .u8 (d.toList.map (·.val)).flatten).drop (32 * (t / 32))).take 32 = encG d[t / 32]! := by
    rw [ints_drop, ints_take, h1]
    rfl
  have h3 := congrArg (fun l : List Value => l[t % 32]?) h2
  simp only [List.getElem?_take, if_pos hm, List.getElem?_drop] at h3
  rw [show 32 * (t / 32) + t % 32 = t by omega] at h3
  have hlen := encG_len d[t / 32]!
  rw [h3]
  generalize encG d[t / 32]! = e at hlen
  rw [List.getElem?_eq_getElem (by omega), getElem!_pos e (t % 32) (by omega)]
theorem holdsG {w : World} {D : Nat} {d : Array DgT} {rest : List Value} (h : Dg w D 24 (d.toList.map (·.val)) rest) : HoldsK encG 32 w D 0 d := by
  intro t ht
  have ht2 : t < d.size * 32 := by simpa using ht
  rw [Nat.zero_add]
  refine ⟨?_, Blk.free h t⟩
  refine Blk.cell h ?_
  have hl : t < (ints .u8 (d.toList.map (·.val)).flatten).length := (List.getElem?_eq_some_iff.1 (flatG d t ht2)).1
  rw [List.getElem?_append_left hl]
  exact flatG d t ht2
theorem putG {w : World} {D : Nat} {d d' : Array DgT} {rest : List Value} (h : Dg w D 24 (d.toList.map (·.val)) rest) (hs : d'.size = d.size) (n : Nat) (os : Array Obj) : Sg D (d'.toList.map (·.val)) rest w (sortWorldK encG 32 w D 0 n d' os) := by
  have hlt : D < w.heap.size := Blk.lt h
  have hblk : w.heap[D]? = some (.cells (ints .u8 (d.toList.map (·.val)).flatten ++ rest).toArray 24 (0, 0)) := h
  have h32 : ∀ e : Array DgT, all32 (e.toList.map (·.val)) := fun e x hx => by
    obtain ⟨y, -, rfl⟩ := List.mem_map.1 hx
    exact y.2.1
  have hl : ∀ e : Array DgT, (ints .u8 (e.toList.map (·.val)).flatten).length = e.size * 32 := fun e => by
    rw [ints_length, flat32_length (h32 e), List.length_map, Array.length_toList]; omega
  refine ⟨?_, ⟨rfl, rfl, rfl, ?_, ?_⟩⟩
  · have e1 : (sortWorldK encG 32 w D 0 n d' os).heap[D]? = some (.cells (putCells id 0 (flatK encG 32 d') (ints .u8 (d.toList.map (·.val)).flatten ++ rest).toArray) 24 (0, 0)) := by
      show ((w.heap.modify D (onCells (putCells id 0 (flatK encG 32 d')))) ++ os)[D]? = _
      rw [Array.getElem?_append_left (by rw [Array.size_modify]; exact hlt), Array.getElem?_modify, if_pos rfl, hblk]
      rfl
    have e2 : putCells id 0 (flatK encG 32 d') (ints .u8 (d.toList.map (·.val)).flatten ++ rest).toArray = (ints .u8 (d'.toList.map (·.val)).flatten ++ rest).toArray := by
      apply Array.ext_getElem?
      intro t
      unfold putCells
      rw [Array.getElem?_mapIdx]
      simp only [List.getElem?_toArray, Nat.zero_le, true_and, Nat.zero_add, size_flatK, Nat.sub_zero, id]
      by_cases ht : t < d'.size * 32
      · rw [List.getElem?_append_left (by rw [hl]; omega), List.getElem?_append_left (by rw [hl]; omega), flatG d' t ht]
        rw [List.getElem?_eq_getElem (by rw [hl]; omega)]
        simp [ht]
      · rw [List.getElem?_append_right (by rw [hl]; omega), List.getElem?_append_right (by rw [hl]; omega), hl, hl, hs]
        cases rest[t - d.size * 32]? with
        | none => rfl
        | some v => rw [hs] at ht; simp [ht]
    rw [e2] at e1
    exact e1
  · show w.heap.size ≤ ((w.heap.modify D _) ++ os).size
    simp
  · intro k hk hne
    show ((w.heap.modify D _) ++ os)[k]? = _
    rw [Array.getElem?_append_left (by rw [Array.size_modify]; exact hk), Array.getElem?_modify, if_neg (fun e => hne e.symm)]
theorem sortG_perm {d d' : Array DgT} (h : PermIn 0 d.size d d') : d'.size = d.size ∧ (d'.toList.map (·.val)).Perm (d.toList.map (·.val)) := by
  obtain ⟨h1, -, h3⟩ := h
  refine ⟨h1, List.Perm.map _ ?_⟩
  rw [Array.extract_size] at h3
  rw [show d.size = d'.size from h1.symm, Array.extract_size] at h3
  exact h3
theorem sortG_nondec {d' : Array DgT} (h : SortedIn (Go.Proofs.ltOf cmpG) 0 d'.size d') : NonDec (d'.toList.map (·.val)) := by
  unfold NonDec
  rw [List.pairwise_iff_getElem]
  intro i j hi hj hij
  rw [List.length_map, Array.length_toList] at hi hj
  have h1 := h i j (Nat.zero_le _) hij hj
  rw [ltG] at h1
  have h2 := of_decide_eq_false h1
  have e1 := getG d' hi
  have e2 := getG d' hj
  rw [(List.getElem?_eq_some_iff.1 e1).2, (List.getElem?_eq_some_iff.1 e2).2]
  have := cmpD_swap d'[i]!.val d'[j]!.val
  omega
theorem sortfunc_walk (D n cap : Nat) (ds : List (List Int)) (rest : List Value) (hn : ds.length = n) (hok : okD ds) (hn' : n ≤ 1000) (w : World) (hD : Dg w D 24 ds rest) :
    Calls Tryd.prog 28 #[.slice (some ⟨D, 0, none⟩) n cap, cmpV] w fun e w' => e = .returned (.tuple #[]) ∧ ∃ l, NonDec l ∧ l.Perm ds ∧ Sg D l rest w w' := by
  have hv := arrG_vals ds hok
  have hsz : (arrG ds hok).size = n := by rw [arrG_size, hn]
  have hD2 : Dg w D 24 ((arrG ds hok).toList.map (·.val)) rest := by rw [hv]; exact hD
  have hcon := AnyQ.slices_SortFunc Tryd.srt 32 (fun w => by kernel_rfl) (fun w => by kernel_rfl) encG encG_len (fun x v hv => ints_one .u8 x.val v hv) cmpG swoG 11 #[] D 0 cap (arrG ds hok) w (enters_of Tryd.func11 (by kernel_rfl) rfl) (cmpLaysG _ _ _ _) (holdsG hD2) (Blk.lt hD) (by rw [hsz]; omega)
  rw [hsz] at hcon
  refine Calls.mono hcon ?_
  rintro e w' ⟨rfl, d', m, os, hp, hs, rfl⟩
  rw [← hsz] at hp hs
  obtain ⟨h1, h2⟩ := sortG_perm hp
  rw [hv] at h2
  exact ⟨rfl, _, sortG_nondec (by rw [h1]; exact hs), h2, putG hD2 h1 m os⟩
end Go.Proofs.YtoeilaedpibboaaDoor
