/- The reference: Same. -/
import Derived.Test.YtljgcjmelmpgoaaDoorQ10
namespace Go.Proofs.YtljgcjmelmpgoaaDoor
open Go.RowKit
set_option linter.unusedVariables false

theorem same_no {L M : List Lt} {i : Nat} (h : L.getD i d0 ≠ M.getD i d0) : decide (L = M) = false := by
  rw [decide_eq_false_iff_not]; intro e; rw [e] at h; exact h rfl
theorem same_yes {L M : List Lt} (hl : L.length = M.length) (h : ∀ k, k < L.length → L.getD k d0 = M.getD k d0) : decide (L = M) = true := by
  rw [decide_eq_true_iff]
  apply List.ext_getElem hl
  intro k h1 h2
  have := h k h1
  simpa [List.getD, List.getElem?_eq_getElem h1, List.getElem?_eq_getElem h2] using this
set_option maxHeartbeats 2000000 in
set_option maxRecDepth 100000 in
theorem same_c (a0 : Option Addr) (n0 c0 : Nat) (L : List Lt) (a1 : Option Addr) (n1 c1 : Nat) (M : List Lt) (w : World) (h0 : SlL w a0 n0 c0 L) (h1 : SlL w a1 n1 c1 M) :
    Calls Tryd.prog 14 #[.slice a0 n0 c0, .slice a1 n1 c1] w fun e w' => e = .returned (.bool (decide (L = M))) ∧ Below w.heap.size w w' := by
  have H0 := Lib.hid h0
  have H1 := Lib.hid h1
  have b0 := h0.2.1
  have b0' := h0.2.2.1
  clear h0 h1
  by_cases hne : n0 = n1
  · subst hne
    obtain ⟨V, hV⟩ : ∃ V, decide (L = M) = V := ⟨_, rfl⟩
    rw [hV]
    have HV := Lib.hid hV
    clear hV
    go_enter Tryd.func14, Tryd.ntmps14
    go_wp2
    go_loopw [5] (fun s wr => ∃ i : Nat, i ≤ n0 ∧ s = .int .i64 (i : Nat) ∧ Hid (∀ k, k < i → L.getD k d0 = M.getD k d0) ∧ Hid (Below w.heap.size w wr)) (fun s _ => n0 - (intOf s).toNat)
    case atStart => exact ⟨0, by omega, rfl, Lib.hid (fun k hk => absurd hk (Nat.not_lt_zero k)), Lib.hid (Below.refl _ _)⟩
    case round =>
      obtain ⟨i, hi, rfl, hno, HB⟩ := hrel
      by_cases hlt : i < n0
      · obtain ⟨b, off, rfl, hb, hc⟩ := (H0.out.below HB.out).at (by omega)
        obtain ⟨p, o2, rfl, hp, hd⟩ := (H1.out.below HB.out).at (by omega)
        obtain ⟨k0, k1⟩ := hc i hlt
        obtain ⟨m0, m1⟩ := hd i hlt
        clear hc hd
        obtain ⟨u, hu⟩ : ∃ u, (L.getD i d0).1 = u := ⟨_, rfl⟩
        obtain ⟨o, ho⟩ : ∃ o, (L.getD i d0).2 = o := ⟨_, rfl⟩
        obtain ⟨v, hv⟩ : ∃ u, (M.getD i d0).1 = u := ⟨_, rfl⟩
        obtain ⟨q, hq⟩ : ∃ o, (M.getD i d0).2 = o := ⟨_, rfl⟩
        rw [hu] at k0
        rw [ho] at k1
        rw [hv] at m0
        rw [hq] at m1
        have HE : Hid (L.getD i d0 = (u, o)) := Lib.hid (by rw [← hu, ← ho])
        have HF : Hid (M.getD i d0 = (v, q)) := Lib.hid (by rw [← hv, ← hq])
        clear hu ho hv hq
        have hi0 : (0 : Int) ≤ (i : Int) := by omega
        have hi1 : (i : Int) < (n0 : Int) := by omega
        have hg := eqg30
        by_cases he : ((u, o) : Int × Bool) = (v, q)
        · have hq := lit_ne_yes he
          have HI : Hid (∀ k, k < i + 1 → L.getD k d0 = M.getD k d0) := Lib.hid (fun k hk => by
            rcases Nat.lt_or_ge k i with h | h
            · exact hno.out k h
            · obtain rfl : k = i := by omega
              rw [HE.out, HF.out]; exact he)
          clear he
          go_wp2
          go_quiet (fail)
          go_wp2
          go_roundw
          case rel => exact ⟨i + 1, by omega, by go_num, HI, Lib.hid (below_drewN HB.out _)⟩
          case measure => simp [intOf]; omega
        · have hq := lit_ne_no he
          have HN : Hid (V = false) := Lib.hid (by rw [← HV.out]; exact same_no (i := i) (by rw [HE.out, HF.out]; exact he))
          clear he
          go_wp2
          go_quiet (fail)
          go_wp2
          refine bodyPost_ret (results_tmp rfl _ _ _) rfl ?_
          exact ⟨by rw [HN.out]; rfl, below_drewN HB.out _⟩
      · have HN : Hid (V = true) := Lib.hid (by rw [← HV.out]; exact same_yes (by rw [H0.out.1, H1.out.1]) (fun k hk => hno.out k (by rw [H0.out.1] at hk; omega)))
        go_wp2
        refine bodyPost_ret (results_tmp rfl _ _ _) rfl ?_
        exact ⟨by rw [HN.out]; rfl, HB.out⟩
  · have HN : Hid (decide (L = M) = false) := Lib.hid (by
      rw [decide_eq_false_iff_not]; intro e
      have h2 := H0.out.1
      have h3 := H1.out.1
      rw [e] at h2
      omega)
    have hnb : (n0 == n1) = false := by rw [beq_eq_false_iff_ne]; exact hne
    go_enter Tryd.func14, Tryd.ntmps14
    go_wp2
    refine bodyPost_ret (results_tmp rfl _ _ _) rfl ?_
    exact ⟨by rw [HN.out]; rfl, Below.refl _ _⟩

end Go.Proofs.YtljgcjmelmpgoaaDoor
