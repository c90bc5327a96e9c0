/- Texts that come in. -/
import Derived.Test.YtbdmljdcipcanaaV18
import Derived.Test.YtbdmljdcipcanaaV11
namespace Go.Proofs.Ytbdmljdcipcanaa
open Go.RowKit
set_option linter.unusedVariables false

theorem sls_of_row {w : World} {a : Option Addr} {len cap : Nat} {ss : List ByteArray} (h : (a = none ∧ len = 0 ∧ cap = 0 ∧ ss = []) ∨
    ∃ x, a = some x ∧ len ≤ cap ∧ cap ≤ maxLen ∧ ss.length = cap ∧ (∀ i, i < ss.length → w.cell? (x.add i) = some (.string (ss.getD i ByteArray.empty))) ∧ ∀ s ∈ ss, s.size ≤ maxLen) :
    SlS w a len cap (ss.take len) ∧ ∀ s ∈ ss.take len, s.size ≤ maxLen := by
  rcases h with ⟨rfl, rfl, rfl, rfl⟩ | ⟨x, rfl, hl, hm, hz, hc, hw⟩
  · exact ⟨⟨rfl, Nat.le_refl _, by omega, .inl rfl⟩, fun s hs => by simp at hs⟩
  · refine ⟨⟨by rw [List.length_take]; omega, hl, by unfold maxLen at hm; omega, ?_⟩, fun s hs => hw s (List.mem_of_mem_take hs)⟩
    by_cases h0 : len = 0
    · exact .inl h0
    · right
      obtain ⟨b, off, spot⟩ := x
      have hc0 := hc 0 (by omega)
      have hspot : spot = none := by simpa [Addr.add] using World.cell?_spot hc0
      subst hspot
      have hb : b < w.heap.size := by
        rw [Addr.add_mid] at hc0
        rcases Nat.lt_or_ge b w.heap.size with h | h
        · exact h
        · simp [World.cell?, Array.getElem?_eq_none h] at hc0
      refine ⟨b, off, rfl, hb, fun i hi => ?_⟩
      have := hc i (by omega)
      rw [Addr.add_mid] at this
      rw [this]
      simp [List.getD, hi]

end Go.Proofs.Ytbdmljdcipcanaa
