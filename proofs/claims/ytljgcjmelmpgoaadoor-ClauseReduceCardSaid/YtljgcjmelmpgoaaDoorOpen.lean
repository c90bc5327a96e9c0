/- What the rows' readings give the walks. -/
import Derived.Test.YtljgcjmelmpgoaaDoorRows
import Derived.Test.YtljgcjmelmpgoaaDoorQ4
import Derived.ProofKit
import Derived.LaidMore
import Derived.OpenShut
import Derived.Lib.LaidTab
import Derived.Deep.SlicePairs
namespace Go.Proofs.YtljgcjmelmpgoaaDoor
open Go.ChangeShapes Go.WideShapes Go.ChangeAt Go.RowKit
set_option linter.unusedVariables false
theorem own : ownKnob Tryd.prog.godebug = none := by kernel_rfl
theorem laidOut : laidOutB Tryd.prog = true := by kernel_rfl
def laidL : List (String × DataW Unit) := [("math/bits.deBruijn32tab", Rows.laid_math_bits_deBruijn32tab), ("math/bits.deBruijn64tab", Rows.laid_math_bits_deBruijn64tab), ("internal/strconv.uint64pow10", Rows.laid_internal_strconv_uint64pow10)]
theorem door_met (os : Os) (args : Array Value) : laidMetH Tryd.prog laidL ((World.doorLaid Tryd.prog 400 os).forCall (fun _ _ => 0) ⟨#[], args, []⟩).memory :=
  laidMetH_of_parts3 (fuel := 8) (laidMet_of_run' 8 (by kernel_rfl) (by kernel_rfl)) (by kernel_rfl) (by kernel_rfl)
theorem pick_list {W : World} {x : Addr} : ∀ (len : Nat), (∀ i, i < len → ∃ q : Lt, W.cell? (x.add (i * 2)) = some (.int .i64 q.1) ∧ W.cell? (x.add (i * 2 + 1)) = some (.bool q.2)) →
    ∃ L : List Lt, L.length = len ∧ ∀ i, i < len → W.cell? (x.add (i * 2)) = some (.int .i64 (L.getD i d0).1) ∧ W.cell? (x.add (i * 2 + 1)) = some (.bool (L.getD i d0).2)
  | 0, _ => ⟨[], rfl, fun i hi => absurd hi (Nat.not_lt_zero i)⟩
  | k + 1, each => by
    obtain ⟨L, hL, hc⟩ := pick_list k (fun i hi => each i (by omega))
    obtain ⟨q, h1, h2⟩ := each k (by omega)
    refine ⟨L ++ [q], by rw [List.length_append, hL]; rfl, fun i hi => ?_⟩
    by_cases hik : i = k
    · subst hik
      have e : (L ++ [q]).getD i d0 = q := by
        rw [List.getD_eq_getElem?_getD, List.getElem?_append_right (by omega), hL]; simp
      rw [e]; exact ⟨h1, h2⟩
    · have e : (L ++ [q]).getD i d0 = L.getD i d0 := by
        rw [List.getD_eq_getElem?_getD, List.getElem?_append_left (by omega), ← List.getD_eq_getElem?_getD]
      rw [e]; exact hc i (by omega)
set_option maxRecDepth 100000 in
theorem lts_open {H : Type} {enc : TypeId × Value → H} {W : World} {base : Nat} (t : TypeId) {v : Value} {d : DataW H} {ps : List MemPlace} (ht : Tryd.prog.underlying t = some (.slice 30)) (hval : Value.okWide Tryd.prog W .any base t v)
    (h : DataW.Trod enc Tryd.prog W 0 (fun _ => true) true t v d ps) : ∃ a len cap L, v = .slice a len cap ∧ SlL W a len cap L := by
  obtain ⟨a, len, cap, rfl⟩ := okWide_slice ht hval
  obtain ⟨fuel, hf⟩ := h
  rcases Go.Deep.open_slice_pairs ht Tryd.underlying30 (by kernel_rfl) rfl rfl (by kernel_rfl) (by kernel_rfl) hf with ⟨hcs, _⟩ | ⟨x, l, c, m, n, V0, V1, D0, D1, P0, P1, hcs, _, hl, hm, hmm, _, hx⟩
  · simp [Value.cells] at hcs
    obtain ⟨rfl, rfl, rfl⟩ := hcs
    exact ⟨none, 0, 0, [], rfl, SlL.nil W none 0 (by omega)⟩
  · simp [Value.cells] at hcs
    obtain ⟨rfl, rfl, rfl⟩ := hcs
    have hlm : len ≤ m := by rw [hmm]; split <;> omega
    have each : ∀ i, i < len → ∃ q : Lt, W.cell? (x.add (i * 2)) = some (.int .i64 q.1) ∧ W.cell? (x.add (i * 2 + 1)) = some (.bool q.2) := fun i hi => by
      obtain ⟨h1, h2, h3, h4⟩ := hx i (by omega)
      obtain ⟨z, hz, _, _⟩ := DataW.trod_int Tryd.underlying3 h3
      obtain ⟨b, hb, _⟩ := DataW.trod_bool Tryd.underlying4 h4
      rw [List.singleton_inj.1 hz] at h1
      rw [List.singleton_inj.1 hb] at h2
      exact ⟨(z, b), h1, h2⟩
    obtain ⟨L, hL, hc⟩ := pick_list len each
    refine ⟨some x, len, cap, L, rfl, hL, hl, by unfold maxLen at hm; exact hm, ?_⟩
    by_cases h0 : len = 0
    · exact .inl h0
    · right
      obtain ⟨b, off, spot⟩ := x
      have hc0 := (hc 0 (by omega)).1
      have hspot : spot = none := by simpa [Addr.add] using World.cell?_spot hc0
      subst hspot
      rw [Addr.add_mid] at hc0
      have hb : b < W.heap.size := by
        rcases Nat.lt_or_ge b W.heap.size with h | h
        · exact h
        · simp [World.cell?, Array.getElem?_eq_none h] at hc0
      refine ⟨b, off, rfl, hb, fun i hi => ?_⟩
      obtain ⟨h1, h2⟩ := hc i hi
      rw [Addr.add_mid] at h1 h2
      exact ⟨h1, by rw [Nat.add_assoc]; exact h2⟩
set_option maxRecDepth 100000 in
theorem ints_open {H : Type} {enc : TypeId × Value → H} {W : World} {base : Nat} (t : TypeId) {v : Value} {d : DataW H} {ps : List MemPlace} (ht : Tryd.prog.underlying t = some (.slice 3)) (hval : Value.okWide Tryd.prog W .any base t v)
    (h : DataW.Trod enc Tryd.prog W 0 (fun _ => true) true t v d ps) : ∃ a len cap L, v = .slice a len cap ∧ SlI W a len cap L := by
  obtain ⟨a, len, cap, rfl⟩ := okWide_slice ht hval
  obtain ⟨fuel, hf⟩ := h
  rcases open_ints ht Tryd.underlying3 (by kernel_rfl) hf with ⟨hcs, _⟩ | ⟨x, l, c, zs, hcs, _, hl, hm, hz, _, hcell, hwz⟩
  · simp [Value.cells] at hcs
    obtain ⟨rfl, rfl, rfl⟩ := hcs
    exact ⟨none, 0, 0, [], rfl, rfl, Nat.le_refl _, by omega, .inl rfl⟩
  · simp [Value.cells] at hcs
    obtain ⟨rfl, rfl, rfl⟩ := hcs
    have hlz : len ≤ zs.length := by rw [hz]; split <;> omega
    refine ⟨some x, len, cap, zs.take len, rfl, by rw [List.length_take]; omega, hl, by unfold maxLen at hm; exact hm, ?_⟩
    by_cases h0 : len = 0
    · exact .inl h0
    · right
      obtain ⟨b, off, spot⟩ := x
      have hc0 := hcell 0 (by omega)
      have hspot : spot = none := by simpa [Addr.add] using World.cell?_spot hc0
      subst hspot
      rw [Addr.add_mid] at hc0
      have hb : b < W.heap.size := by
        rcases Nat.lt_or_ge b W.heap.size with h | h
        · exact h
        · simp [World.cell?, Array.getElem?_eq_none h] at hc0
      refine ⟨b, off, rfl, hb, fun i hi => ?_⟩
      have h1 := hcell i (by omega)
      rw [Addr.add_mid] at h1
      rw [h1]
      simp [List.getD, hi]
end Go.Proofs.YtljgcjmelmpgoaaDoor
