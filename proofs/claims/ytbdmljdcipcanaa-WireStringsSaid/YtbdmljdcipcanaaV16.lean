/- What another reader leaves. -/
import Derived.Test.YtbdmljdcipcanaaV15
namespace Go.Proofs.Ytbdmljdcipcanaa
open Go.RowKit
set_option linter.unusedVariables false

/-- bytes stay where a reader is written: its block is no block of bytes -/
theorem SlB.past {w w' : World} {a : Option Addr} {n c R : Nat} {L L0 : List Int} (h : SlB w a n c L) (h0 : Rd w R L0) (hg : w.grownBy w' (some R)) : SlB w' a n c L := by
  obtain ⟨h1, h2, h3, h4, h5⟩ := h
  refine ⟨h1, h2, h3, h4, ?_⟩
  rcases h5 with h5 | ⟨b, off, e, hlt, hc⟩
  · exact .inl h5
  · by_cases hn : n = 0
    · exact .inl hn
    · have hbR : b ≠ R := by
        rintro rfl
        obtain ⟨a0, c0, r1, _, _⟩ := h0
        have k := hc 0 (by omega)
        rw [cell_of_row w b (off + 0) _ 58 (0, 0) r1] at k
        match off with
        | 0 => simp at k
        | 1 => simp at k
        | j + 2 => simp at k
      exact .inr ⟨b, off, e, Nat.lt_of_lt_of_le hlt hg.size, fun i hi => hg.cell (hc i hi) (by simpa using hbR)⟩
theorem Rd.past {w w' : World} {R R' : Nat} {L L0 : List Int} (h : Rd w R' L) (h0 : Rd w R L0) (hne : R' ≠ R) (hg : w.grownBy w' (some R)) : Rd w' R' L := by
  obtain ⟨a, c, h1, h2, h3⟩ := h
  exact ⟨a, c, by rw [hg.block R' (Array.getElem?_eq_some_iff.1 h1).1 (fun e => hne (by injection e))]; exact h1, h2.past h0 hg, h3⟩

end Go.Proofs.Ytbdmljdcipcanaa
