/- The reference: Same. -/
import Derived.Test.YtigokfcoofbdlaaS1
namespace Go.Proofs.Ytigokfcoofbdlaa
open Go.RowKit
set_option linter.unusedVariables false

theorem below_drewN {B : Nat} {w0 w : World} (h : Below B w0 w) (n : Nat) : Below B w0 (w.drewN n) := ⟨h.os, h.tape, h.output, h.size, h.block⟩
theorem same_no {l0 l1 : List Int} {i : Nat} (h : l0.getD i 0 ≠ l1.getD i 0) : decide (l0 = l1) = false := by
  rw [decide_eq_false_iff_not]; intro e; rw [e] at h; exact h rfl
theorem same_yes {l0 l1 : List Int} (hl : l0.length = l1.length) (h : ∀ k, k < l0.length → l0.getD k 0 = l1.getD k 0) : decide (l0 = l1) = true := by
  rw [decide_eq_true_iff]
  apply List.ext_getElem hl
  intro k h1 h2
  have := h k h1
  simpa [List.getD, List.getElem?_eq_getElem h1, List.getElem?_eq_getElem h2] using this
set_option maxHeartbeats 1000000 in
set_option maxRecDepth 100000 in
theorem same_c (a0 : Option Addr) (n0 c0 : Nat) (l0 : List Int) (a1 : Option Addr) (n1 c1 : Nat) (l1 : List Int) (w : World) (h0 : SlI w a0 n0 c0 l0) (h1 : SlI w a1 n1 c1 l1) :
    Calls Try.prog 13 #[.slice a0 n0 c0, .slice a1 n1 c1] w fun e w' => e = .returned (.bool (decide (l0 = l1))) ∧ Below w.heap.size w w' := by
  have H0 := Lib.hid h0
  have H1 := Lib.hid h1
  have b0 := h0.2.1
  have b0' := h0.2.2.1
  have b1 := h1.2.1
  have b1' := h1.2.2.1
  clear h0 h1
  by_cases hne : n0 = n1
  · subst hne
    go_enter Try.func13, Try.ntmps13
    go_wp2
    go_loopw [5] (fun s wr => ∃ i : Nat, i ≤ n0 ∧ s = .int .i64 i ∧ Hid (∀ k, k < i → l0.getD k 0 = l1.getD k 0) ∧ Below w.heap.size w wr) (fun s _ => n0 - (intOf s).toNat)
    case atStart => exact ⟨0, by omega, rfl, Lib.hid (fun k hk => absurd hk (Nat.not_lt_zero k)), Below.refl _ _⟩
    case round =>
      obtain ⟨i, hi, rfl, hno, hb⟩ := hrel
      have BB := Lib.hid hb; clear hb
      by_cases hlt : i < n0
      · obtain ⟨p0, o0, rfl, hc0⟩ := (H0.out.below BB.out).at (by omega)
        obtain ⟨p1, o1, rfl, hc1⟩ := (H1.out.below BB.out).at (by omega)
        have k0 := hc0 i hlt
        have k1 := hc1 i hlt
        clear hc0 hc1
        obtain ⟨x, hx⟩ : ∃ y, l0.getD i 0 = y := ⟨_, rfl⟩
        obtain ⟨y, hy⟩ : ∃ y, l1.getD i 0 = y := ⟨_, rfl⟩
        rw [hx] at k0
        rw [hy] at k1
        have HX := Lib.hid hx
        have HY := Lib.hid hy
        clear hx hy
        by_cases hxy : x = y
        · subst hxy
          go_wp2
          go_quiet (fail)
          go_wp2
          go_roundw
          case rel => exact ⟨i + 1, by omega, by go_num, Lib.hid (fun k hk => by
            rcases Nat.lt_or_ge k i with h | h
            · exact hno.out k h
            · have : k = i := by omega
              rw [this, HX.out, HY.out]), below_drewN BB.out _⟩
          case measure => simp [intOf]; omega
        · have hd := Lib.hid (same_no (l0 := l0) (l1 := l1) (i := i) (by rw [HX.out, HY.out]; exact hxy))
          have hbe : (x == y) = false := by simpa using hxy
          have hbn : (x != y) = true := by simpa using hxy
          go_wp2
          go_quiet (fail)
          go_wp2
          refine bodyPost_ret (results_tmp rfl _ _ _) rfl ?_
          exact ⟨by rw [hd.out]; rfl, below_drewN BB.out _⟩
      · have hd := Lib.hid (same_yes (l0 := l0) (l1 := l1) (by rw [H0.out.1, H1.out.1]) (fun k hk => hno.out k (by rw [H0.out.1] at hk; omega)))
        go_wp2
        refine bodyPost_ret (results_tmp rfl _ _ _) rfl ?_
        exact ⟨by rw [hd.out]; rfl, BB.out⟩
  · have hd := Lib.hid (show decide (l0 = l1) = false from by
      rw [decide_eq_false_iff_not]; intro e; exact hne (by rw [← H0.out.1, ← H1.out.1, e]))
    have hn2 : ((n0 : Int) != (n1 : Int)) = true := by
      rw [bne_iff_ne]; omega
    go_enter Try.func13, Try.ntmps13
    go_wp2
    refine bodyPost_ret (results_tmp rfl _ _ _) rfl ?_
    exact ⟨by rw [hd.out]; rfl, Below.refl _ _⟩

end Go.Proofs.Ytigokfcoofbdlaa
