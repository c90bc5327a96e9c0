/- A slice of clauses comes in. -/
import Derived.Test.YtljgcjmelmpgoaaDoorOpen
import Derived.Test.YtljgcjmelmpgoaaDoorQ33
namespace Go.Proofs.YtljgcjmelmpgoaaDoor
open Go.ChangeShapes Go.WideShapes Go.ChangeAt Go.RowKit
set_option linter.unusedVariables false
set_option maxRecDepth 100000 in
theorem lts_cells {H : Type} {enc : TypeId × Value → H} {W : World} {fuel : Nat} {v : Value} {x : DataW H × List MemPlace} (hf : DataW.trod enc Tryd.prog W 0 (fun _ => true) true fuel 24 [v] = some x) : ∃ y : Cl, v = y.val ∧ y.ok W := by
  rcases Go.Deep.open_slice_pairs Tryd.underlying24 Tryd.underlying30 (by kernel_rfl) rfl rfl (by kernel_rfl) (by kernel_rfl) hf with ⟨hcs, _⟩ | ⟨x, l, c, m, n, V0, V1, D0, D1, P0, P1, hcs, _, hl, hm, hmm, _, hx⟩
  · exact ⟨((none, 0, 0), []), List.singleton_inj.1 hcs, SlL.nil W none 0 (by omega)⟩
  · have hlm : l ≤ m := by rw [hmm]; split <;> omega
    have each : ∀ i, i < l → ∃ q : Lt, W.cell? (x.add (i * 2)) = some (.int .i64 q.1) ∧ W.cell? (x.add (i * 2 + 1)) = some (.bool q.2) := fun i hi => by
      obtain ⟨h1, h2, h3, h4⟩ := hx i (by omega)
      obtain ⟨z, hz, _, _⟩ := DataW.trod_int Tryd.underlying3 h3
      obtain ⟨b, hb, _⟩ := DataW.trod_bool Tryd.underlying4 h4
      rw [List.singleton_inj.1 hz] at h1
      rw [List.singleton_inj.1 hb] at h2
      exact ⟨(z, b), h1, h2⟩
    obtain ⟨L, hL, hc⟩ := pick_list l each
    refine ⟨((some x, l, c), L), List.singleton_inj.1 hcs, hL, hl, by unfold maxLen at hm; exact hm, ?_⟩
    by_cases h0 : l = 0
    · exact .inl h0
    · right
      obtain ⟨b, off, spot⟩ := x
      have hc0 := (hc 0 (by omega)).1
      have hspot : spot = none := by simpa [Addr.add] using World.cell?_spot hc0
      subst hspot
      rw [Addr.add_mid] at hc0
      have hb : b < W.heap.size := by
        rcases Nat.lt_or_ge b W.heap.size with h | h
        · exact h
        · simp [World.cell?, Array.getElem?_eq_none h] at hc0
      refine ⟨b, off, rfl, hb, fun i hi => ?_⟩
      obtain ⟨h1, h2⟩ := hc i hi
      rw [Addr.add_mid] at h1 h2
      exact ⟨h1, by rw [Nat.add_assoc]; exact h2⟩
theorem pick_cls {W : World} {x : Addr} : ∀ (len : Nat), (∀ i, i < len → ∃ q : Cl, W.cell? (x.add i) = some q.val ∧ q.ok W) →
    ∃ K : List Cl, K.length = len ∧ (∀ i, i < len → W.cell? (x.add i) = some (K.getD i c0).val) ∧ ∀ y ∈ K, y.ok W
  | 0, _ => ⟨[], rfl, fun i hi => absurd hi (Nat.not_lt_zero i), fun y hy => by cases hy⟩
  | k + 1, each => by
    obtain ⟨K, hK, hc, ho⟩ := pick_cls k (fun i hi => each i (by omega))
    obtain ⟨q, h1, h2⟩ := each k (by omega)
    refine ⟨K ++ [q], by rw [List.length_append, hK]; rfl, fun i hi => ?_, fun y hy => ?_⟩
    · by_cases hik : i = k
      · subst hik
        have e : (K ++ [q]).getD i c0 = q := by
          rw [List.getD_eq_getElem?_getD, List.getElem?_append_right (by omega), hK]; simp
        rw [e]; exact h1
      · have e : (K ++ [q]).getD i c0 = K.getD i c0 := by
          rw [List.getD_eq_getElem?_getD, List.getElem?_append_left (by omega), ← List.getD_eq_getElem?_getD]
        rw [e]; exact hc i (by omega)
    · rcases List.mem_append.1 hy with h | h
      · exact ho y h
      · rw [List.mem_singleton.1 h]; exact h2
set_option maxRecDepth 100000 in
theorem ltss_open {H : Type} {enc : TypeId × Value → H} {W : World} {base : Nat} (t : TypeId) {v : Value} {d : DataW H} {ps : List MemPlace} (ht : Tryd.prog.underlying t = some (.slice 24)) (hval : Value.okWide Tryd.prog W .any base t v)
    (h : DataW.Trod enc Tryd.prog W 0 (fun _ => true) true t v d ps) : ∃ a len cap K, v = .slice a len cap ∧ SlC W a len cap K := by
  obtain ⟨a, len, cap, rfl⟩ := okWide_slice ht hval
  obtain ⟨fuel, hf⟩ := h
  rcases Go.Deep.open_slice1 ht (by kernel_rfl) hf with ⟨hcs, _⟩ | ⟨x, l, c, m, n, V, D, Pl, hcs, _, hl, hm, hmm, _, hx⟩
  · simp [Value.cells] at hcs
    obtain ⟨rfl, rfl, rfl⟩ := hcs
    exact ⟨none, 0, 0, [], rfl, ⟨rfl, Nat.le_refl _, by omega, .inl rfl⟩, fun x hx => by cases hx⟩
  · simp [Value.cells] at hcs
    obtain ⟨rfl, rfl, rfl⟩ := hcs
    have hlm : len ≤ m := by rw [hmm]; split <;> omega
    obtain ⟨K, hK, hc, ho⟩ := pick_cls (W := W) (x := x) len (fun i hi => by
      obtain ⟨h1, h2⟩ := hx i (by omega)
      obtain ⟨y, e, hy⟩ := lts_cells h2
      exact ⟨y, by rw [h1, e], hy⟩)
    refine ⟨some x, len, cap, K, rfl, ⟨hK, hl, by unfold maxLen at hm; exact hm, ?_⟩, ho⟩
    by_cases h0 : len = 0
    · exact .inl h0
    · right
      obtain ⟨b, off, spot⟩ := x
      have hc0 := hc 0 (by omega)
      have hspot : spot = none := by simpa [Addr.add] using World.cell?_spot hc0
      subst hspot
      rw [Addr.add_mid] at hc0
      have hb : b < W.heap.size := by
        rcases Nat.lt_or_ge b W.heap.size with h | h
        · exact h
        · simp [World.cell?, Array.getElem?_eq_none h] at hc0
      refine ⟨b, off, rfl, hb, fun i hi => ?_⟩
      have h1 := hc i hi
      rwa [Addr.add_mid] at h1
end Go.Proofs.YtljgcjmelmpgoaaDoor
