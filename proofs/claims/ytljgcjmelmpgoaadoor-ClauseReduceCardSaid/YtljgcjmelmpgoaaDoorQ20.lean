/- The sort at a list of one's own. -/
import Derived.Test.YtljgcjmelmpgoaaDoorQ11
import Derived.Test.YtljgcjmelmpgoaaDoorQ19
import Derived.Test.YtljgcjmelmpgoaaDoorQ16
namespace Go.Proofs.YtljgcjmelmpgoaaDoor
open Go.RowKit
set_option linter.unusedVariables false

open Go.Sort Go.Shelf Go.Lib
theorem flat_lvals (d : Array Lt) : (flatK encLt 2 d).toList = lvals d.toList := by
  apply List.ext_getElem (by rw [lvals_len]; simp)
  intro t h1 h2
  have ht : t < d.size * 2 := by simpa using h1
  have hi : t / 2 < d.toList.length := by simp; omega
  have hv := lvals_at (L := d.toList) (i := t / 2) hi
  have e : (flatK encLt 2 d)[t]! = (encLt d[t / 2]!)[t % 2]! := get_flatK encLt 2 d t ht
  have ed : d[t / 2]! = d.toList.getD (t / 2) d0 := by
    rw [getElem!_pos d (t / 2) (by omega), List.getD_eq_getElem?_getD, List.getElem?_eq_getElem hi]; simp
  rw [Array.getElem_toList]
  rw [getElem!_pos (flatK encLt 2 d) t (by simpa using ht), ed] at e
  rw [e]
  have hs : (lvals d.toList)[t]? = some ((lvals d.toList)[t]) := List.getElem?_eq_getElem h2
  rcases Nat.mod_two_eq_zero_or_one t with hm | hm
  · rw [hm]
    have et : t = t / 2 * 2 := by omega
    rw [← et] at hv
    have := hv.1.symm.trans hs
    simpa [encLt] using Option.some.inj this
  · rw [hm]
    have et : t = t / 2 * 2 + 1 := by omega
    rw [← et] at hv
    have := hv.2.symm.trans hs
    simpa [encLt] using Option.some.inj this
theorem holds_of_blockV {w : World} {g : Nat} {cur : Array Value} {e : TypeId} {F : Array Value} (hb : w.heap[g]? = some (.cells cur e (0, 0))) (ht : cur.toList.take F.size = F.toList) : Holds id w g 0 F := by
  intro j hj
  refine ⟨?_, by simp [World.frozen?, hb]⟩
  have h1 : (cur.toList.take F.size)[j]? = F.toList[j]? := by rw [ht]
  rw [List.getElem?_take_of_lt hj] at h1
  simp only [World.cell?, hb, Nat.zero_add]
  simp only [Option.isSome_none, Bool.false_eq_true, if_false]
  rw [← Array.getElem?_toList, h1]
  simp [hj]
theorem heap_sortedV {w : World} {g n : Nat} {os : Array Obj} {cur : Array Value} {e : TypeId} {fr : Nat × Nat} (F : Array Value) (hb : w.heap[g]? = some (.cells cur e fr)) :
    (grow (putRow id (Sort.ahead w n) g 0 F) os).heap[g]? = some (.cells (putCells id 0 F cur) e fr) := by
  have hg : g < w.heap.size := (Array.getElem?_eq_some_iff.1 hb).1
  rw [heap_grow_old _ _ (by simpa using hg)]
  simp [putRow, mapBlock, Sort.ahead, Array.getElem?_modify, hb, onCells]
theorem grownBy_sortedV {w : World} {g n : Nat} {os : Array Obj} (F : Array Value) : w.grownBy (grow (putRow id (Sort.ahead w n) g 0 F) os) (some g) := by
  refine ⟨rfl, rfl, rfl, by simp, fun k hk hne => ?_⟩
  rw [heap_grow_old _ _ (by simpa using hk)]
  have : g ≠ k := fun e => hne (by rw [e])
  simp [putRow, mapBlock, Sort.ahead, Array.getElem?_modify, this]
theorem take_putCellsV (cur F : Array Value) (h : F.size ≤ cur.size) : (putCells id 0 F cur).toList.take F.size = F.toList := by
  apply List.ext_getElem?
  intro j
  by_cases hj : j < F.size
  · rw [List.getElem?_take_of_lt hj, Array.getElem?_toList, Array.getElem?_toList]
    simp [putCells, hj, show j < cur.size by omega]
  · rw [List.getElem?_take_eq_none (by omega), List.getElem?_eq_none (by simp; omega)]
/-- what a sort leaves: the same members in ascending order, in the same block -/
def SortSays (w : World) (base g n cap : Nat) (L : List Lt) (e : Ending) (w' : World) : Prop :=
  e = .returned (.tuple #[]) ∧ ∃ S : List Lt, S.length = n ∧ List.Pairwise (fun a b : Lt => a.1 ≤ b.1) S ∧ (∀ x, x ∈ S ↔ x ∈ L) ∧ OwnL w' base (.slice (some ⟨g, 0, none⟩) n cap) S ∧ Below base w w'
set_option maxRecDepth 100000 in
theorem sortOwn_c (base g n cap : Nat) (L : List Lt) (w : World) (hO : OwnL w base (.slice (some ⟨g, 0, none⟩) n cap) L) (hL : L.length = n) (hn : n ≤ 4000) (hb : base ≤ w.heap.size) :
    Calls Tryd.prog 33 #[.slice (some ⟨g, 0, none⟩) n cap, .func (.func 34) #[] #[]] w fun e w' => SortSays w base g n cap L e w' := by
  rcases id hO.2 with ⟨hv, _⟩ | ⟨g', cap', cur, hv, hg, hh, h1, h2, h3, h4⟩
  · cases hv
  injection hv with e1 e2 e3
  injection e1 with e1
  injection e1 with e1
  subst e1; subst e3
  clear e2
  rw [hL] at h1 h4
  have hF : (flatK encLt 2 L.toArray).size = n * 2 := by rw [size_flatK]; simp [hL]
  have hFl : (flatK encLt 2 L.toArray).toList = lvals L := by rw [flat_lvals]
  have hH : HoldsK encLt 2 w g 0 L.toArray := holds_of_blockV hh (by rw [hF, hFl]; exact h4)
  have hd : L.toArray.size = n := by simp [hL]
  have hgs : g < w.heap.size := (Array.getElem?_eq_some_iff.1 hh).1
  have key := sort_c g 0 cap L.toArray w hH hgs (by rw [hd]; omega)
  rw [hd] at key
  refine key.mono ?_
  rintro e w' ⟨he, d', m, os, hp, hs, hw⟩
  have hsz : d'.size = n := hp.1.trans hd
  have hS : d'.toList.length = n := by simpa using hsz
  have hex : ∀ a : Array Lt, a.size = n → a.extract 0 n = a := fun a ha => by rw [← ha]; simp
  have hperm : d'.toList.Perm L := by
    have := hp.2.2
    rw [hex d' hsz, hex L.toArray hd] at this
    simpa using this
  have hFd : (flatK encLt 2 d').size = n * 2 := by rw [size_flatK, hsz]
  refine ⟨he, d'.toList, hS, ?_, fun x => hperm.mem_iff, ?_, ?_⟩
  · rw [List.pairwise_iff_getElem]
    intro i j hi hj hij
    have := hs i j (Nat.zero_le _) hij (by omega)
    rw [ltLt] at this
    have e1 : d'[i]! = d'.toList[i] := by rw [getElem!_pos d' i (by omega)]; simp
    have e2 : d'[j]! = d'.toList[j] := by rw [getElem!_pos d' j (by omega)]; simp
    rw [e1, e2] at this
    simp only [decide_eq_false_iff_not] at this
    omega
  · rw [hw]
    refine ⟨by rw [lvals_len], .inr ⟨g, cap, _, by rw [hS], hg, heap_sortedV _ hh, by rw [hS]; exact h1, h2, by simp [putCells, h3], ?_⟩⟩
    rw [hS, ← flat_lvals, ← hFd]
    exact take_putCellsV cur _ (by rw [hFd, h3]; omega)
  · rw [hw]
    exact (Below.refl base w).grown (grownBy_sortedV _) hb (fun j hj => by have := Option.some.inj hj; omega)

end Go.Proofs.YtljgcjmelmpgoaaDoor
