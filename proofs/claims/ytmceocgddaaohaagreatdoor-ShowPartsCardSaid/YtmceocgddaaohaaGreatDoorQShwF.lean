/- A set of strings in memory, as package show keeps the names that are taken. -/
import Derived.Test.YtmceocgddaaohaaGreatDoorQGenT
import Derived.Test.YtmceocgddaaohaaGreatDoorQLexH
import Derived.Maps.OwnSet
import Derived.Maps.RangeRun
import Derived.StringKeys
namespace Go.Proofs.YtmceocgddaaohaaGreatDoor
open Go Go.RowKit Go.ChangeMaps Go.MapKept
open Go.Maps (Keyed)
set_option maxRecDepth 100000
def unitS : Value := .agg #[]
theorem strKeyed : Keyed Tryz.prog 9 := Go.Maps.string_keyed Tryz.underlying9
theorem sT_key {k : List UInt8} (hk : k.length ≤ maxLen) : ∃ l, keyOf Tryz.prog 9 (sT k) = some l := ⟨_, Go.WideMaps.keyOf_string_mk Tryz.underlying9 (by show k.length ≤ maxLen; exact hk)⟩
theorem sT_inj {a b : List UInt8} (h : sT a = sT b) : a = b := by
 unfold sT at h
 injection h with h
 injection h with h
 simpa using h
/-- Block mb is a map whose keys are just the strings ks. -/
def SetS (w : World) (mb : Nat) (ks : List (List UInt8)) : Prop :=
 ∃ (es : Array MapEntry) (clock : Nat) (kset : List (List UInt8)), w.heap[mb]? = some (.map es clock) ∧ Stamped es clock ∧ es.toList.map (·.key) = kset.map sT ∧ (∀ e ∈ es.toList, e.val = unitS) ∧ (∀ k, k ∈ kset ↔ k ∈ ks) ∧ ∀ k ∈ kset, k.length ≤ maxLen
section
variable {w w' : World} {mb : Nat} {ks : List (List UInt8)}
theorem SetS.lt (h : SetS w mb ks) : mb < w.heap.size := by
 obtain ⟨es, clock, kset, hb, _⟩ := h
 exact (Array.getElem?_eq_some_iff.1 hb).1
theorem SetS.same (h : SetS w mb ks) (hb : w'.heap[mb]? = w.heap[mb]?) : SetS w' mb ks := by
 obtain ⟨es, clock, kset, h1, h2⟩ := h
 exact ⟨es, clock, kset, hb.trans h1, h2⟩
theorem SetS.below (h : SetS w mb ks) (hb : Below w.heap.size w w') : SetS w' mb ks := h.same (hb.block mb h.lt)
theorem SetS.new (w : World) : SetS (w.alloc (.map #[] 0)) w.heap.size [] := ⟨#[], 0, [], heap_alloc_new w _, by simp [Stamped], rfl, fun e he => by simp at he, fun k => Iff.rfl, fun k hk => by cases hk⟩
theorem SetS.find {es : Array MapEntry} {kset : List (List UInt8)} (h2 : es.toList.map (·.key) = kset.map sT) (hg : ∀ k ∈ kset, k.length ≤ maxLen) {k : List UInt8} (hk : k.length ≤ maxLen) (w : World) :
    ((Instr.findKey 9 (sT k) es.toList).run Tryz.prog w = .ok none w ∧ k ∉ kset ∧ ∀ e ∈ es.toList, e.key ≠ sT k) ∨ ∃ (j : Nat) (e : MapEntry), (Instr.findKey 9 (sT k) es.toList).run Tryz.prog w = .ok (some (j, e.val)) w ∧ k ∈ kset ∧ es.toList[j]? = some e ∧ e.key = sT k := by
  obtain ⟨l, hl⟩ := sT_key hk
  have hall : ∀ e ∈ es.toList, ∃ l, keyOf Tryz.prog 9 e.key = some l := fun e he => by
    have : e.key ∈ kset.map sT := by rw [← h2]; exact List.mem_map.2 ⟨e, he, rfl⟩
    obtain ⟨k', hk', e1⟩ := List.mem_map.1 this
    rw [← e1]
    exact sT_key (hg k' hk')
  rcases strKeyed.find w hl es.toList hall with ⟨h4, h5⟩ | ⟨j, e, h4, h5, h6⟩
  · refine .inl ⟨h4, fun hc => ?_, h5⟩
    have : sT k ∈ es.toList.map (·.key) := by rw [h2]; exact List.mem_map.2 ⟨k, hc, rfl⟩
    obtain ⟨e, he, e1⟩ := List.mem_map.1 this
    exact h5 e he e1
  · refine .inr ⟨j, e, h4, ?_, h5, h6⟩
    have : sT k ∈ kset.map sT := by rw [← h2, ← h6]; exact List.mem_map.2 ⟨e, List.mem_of_getElem? h5, rfl⟩
    obtain ⟨k', hk', e1⟩ := List.mem_map.1 this
    rw [← sT_inj e1]
    exact hk'
/-- _, ok := m[k]. -/
theorem SetS.ask (h : SetS w mb ks) {k : List UInt8} (hk : k.length ≤ maxLen) : (Instr.lookup 129 (.map (some mb)) (sT k) true).run Tryz.prog w = .ok (.tuple #[unitS, .bool (decide (k ∈ ks))]) w := by
 obtain ⟨es, clock, kset, hb, hs, h2, hv, hks, hg⟩ := h
 obtain ⟨l, hl⟩ := sT_key hk
 rcases SetS.find h2 hg hk w with ⟨h4, h5, -⟩ | ⟨j, e, h4, h5, h6, -⟩
 ·rw [decide_eq_false (fun hc => h5 ((hks k).2 hc))]
  simp [Instr.lookup, run_underlying Tryz.underlying129, MapKept.run_getObj_map hb, strKeyed.check w _ hl, h4, Result.andThen]
  rfl
 ·rw [decide_eq_true ((hks k).1 h5)]
  have e1 : e.val = unitS := hv e (List.mem_of_getElem? h6)
  rw [e1] at h4
  simp [Instr.lookup, run_underlying Tryz.underlying129, MapKept.run_getObj_map hb, strKeyed.check w _ hl, h4, Result.andThen]
theorem updS_setBlock {b : Nat} {o : Obj} (o' : Obj) (_hb : w.heap[b]? = some o) : Upd b w (setBlock w b o') := by
 refine ⟨rfl, rfl, rfl, by simp [setBlock], fun k _ hne => ?_⟩
 simp [setBlock, Ne.symm hne]
/-- m[k] = struct{}{}. -/
theorem SetS.add (h : SetS w mb ks) {k : List UInt8} (hk : k.length ≤ maxLen) : ∃ w', (Instr.mapUpdate 129 (.map (some mb)) (sT k) unitS).run Tryz.prog w = .ok () w' ∧ SetS w' mb (ks ++ [k]) ∧ Upd mb w w' := by
 obtain ⟨es, clock, kset, hb, hs, h2, hv, hks, hg⟩ := h
 obtain ⟨l, hl⟩ := sT_key hk
 rcases SetS.find h2 hg hk w with ⟨h4, h5, h6⟩ | ⟨j, e0, h4, h5, he0, k0⟩
 ·refine ⟨setBlock w mb (.map (es.push ⟨sT k, unitS, clock⟩) (clock + 1)), by simp [Instr.mapUpdate, run_underlying Tryz.underlying129, MapKept.run_getObj_map hb, strKeyed.check w false hl, h4, MapKept.run_setObj_map _ hb, Result.andThen, setBlock], ⟨_, _, kset ++ [k], heap_setBlock_same hb _, stamped_push hs h6, by simp [h2], ?_, ?_, ?_⟩, updS_setBlock _ hb⟩
  ·intro e he
   rw [Array.toList_push] at he
   rcases List.mem_append.1 he with he | he
   ·exact hv e he
   ·obtain rfl := List.mem_singleton.1 he
    rfl
  ·intro x
   simp [hks x]
  ·intro x hx
   rcases List.mem_append.1 hx with h | h
   ·exact hg x h
   ·obtain rfl : x = k := by simpa using h
    exact hk
 ·have v0 : e0.val = unitS := hv e0 (List.mem_of_getElem? he0)
  have hja : es[j]? = some e0 := by simpa using he0
  have hsame : (es.modify j (fun e' => { e' with key := sT k, val := unitS })) = es := by
   apply Array.ext'
   rw [Array.toList_modify]
   apply List.ext_getElem?
   intro i
   rw [List.getElem?_modify]
   by_cases hij : j = i
   ·subst hij
    rw [he0]
    simp [← k0, ← v0]
   ·simp [hij]
  refine ⟨setBlock w mb (.map es clock), ?_, ⟨es, clock, kset, heap_setBlock_same hb _, hs, h2, hv, fun x => ?_, hg⟩, updS_setBlock _ hb⟩
  ·simp [Instr.mapUpdate, run_underlying Tryz.underlying129, MapKept.run_getObj_map hb, strKeyed.check w false hl, h4, hja, k0, strKeyed.stays w hl, MapKept.run_setObj_map _ hb, Result.andThen, setBlock]
   rw [hsame]
  ·rw [hks x, List.mem_append, List.mem_singleton]
   exact ⟨.inl, fun h => h.elim id (fun e => by subst e; exact (hks x).1 h5)⟩
end
end Go.Proofs.YtmceocgddaaohaaGreatDoor
