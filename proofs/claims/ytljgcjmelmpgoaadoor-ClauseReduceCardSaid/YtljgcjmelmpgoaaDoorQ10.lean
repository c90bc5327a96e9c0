/- Subsumes, of the program and of the reference. -/
import Derived.Test.YtljgcjmelmpgoaaDoorQ9
namespace Go.Proofs.YtljgcjmelmpgoaaDoor
open Go.RowKit
set_option linter.unusedVariables false

set_option maxHeartbeats 2000000 in
set_option maxRecDepth 100000 in
theorem subsumes_c (a0 : Option Addr) (n0 c0 : Nat) (A : List Lt) (a1 : Option Addr) (n1 c1 : Nat) (B : List Lt) (w : World) (h0 : SlL w a0 n0 c0 A) (h1 : SlL w a1 n1 c1 B) (hn : n1 ≤ 1099511627776) :
    Calls Tryd.prog 19 #[.slice a0 n0 c0, .slice a1 n1 c1] w fun e w' => e = .returned (.bool (subs A B)) ∧ Below w.heap.size w w' := by
  have H0 := Lib.hid h0
  have H1 := Lib.hid h1
  clear h0 h1
  go_enter Tryd.func19, Tryd.ntmps19
  go_wp2_with fail
  refine (valid_c a0 n0 c0 A w H0.out).mono ?_
  rintro e w1 ⟨rfl, hb1⟩
  have B1 := Lib.hid hb1; clear hb1
  cases hA : vld A with
  | false =>
    have HN : Hid (subs A B = false) := Lib.hid (by unfold subs; rw [hA]; rfl)
    clear hA
    go_wp2
    refine bodyPost_ret (results_tmp rfl _ _ _) rfl ?_
    exact ⟨by rw [HN.out]; rfl, B1.out⟩
  | true =>
    have HA := Lib.hid hA
    clear hA
    go_wp2_with fail
    refine (valid_c a1 n1 c1 B w1 (H1.out.below B1.out)).mono ?_
    rintro e w2 ⟨rfl, hb2⟩
    have B2 := Lib.hid (B1.out.trans (hb2.mono B1.out.size)); clear hb2
    cases hB : vld B with
    | false =>
      have HN : Hid (subs A B = false) := Lib.hid (by unfold subs; rw [hB]; simp)
      clear hB
      go_wp2
      refine bodyPost_ret (results_tmp rfl _ _ _) rfl ?_
      exact ⟨by rw [HN.out]; rfl, B2.out⟩
    | true =>
      have HB := Lib.hid hB
      clear hB
      have HN : Hid (subs A B = decide (∀ x ∈ A, x ∈ B)) := Lib.hid (by unfold subs; rw [HA.out, HB.out]; rfl)
      go_wp2_with fail
      refine (contained_c a0 n0 c0 A a1 n1 c1 B w2 (H0.out.below B2.out) (H1.out.below B2.out) HA.out HB.out hn).mono ?_
      rintro e w3 ⟨rfl, hb3⟩
      have B3 := Lib.hid (B2.out.trans (hb3.mono B2.out.size)); clear hb3
      rw [← HN.out]
      go_wp2
      refine bodyPost_ret (results_tmp rfl _ _ _) rfl ?_
      exact ⟨rfl, B3.out⟩
set_option maxHeartbeats 2000000 in
set_option maxRecDepth 100000 in
theorem rsubsumes_c (a0 : Option Addr) (n0 c0 : Nat) (A : List Lt) (a1 : Option Addr) (n1 c1 : Nat) (B : List Lt) (w : World) (h0 : SlL w a0 n0 c0 A) (h1 : SlL w a1 n1 c1 B) :
    Calls Tryd.prog 20 #[.slice a0 n0 c0, .slice a1 n1 c1] w fun e w' => e = .returned (.bool (subs A B)) ∧ Below w.heap.size w w' := by
  have H0 := Lib.hid h0
  have H1 := Lib.hid h1
  have hcap : n0 ≤ 9223372036854775807 := by have := h0.2.1; have := h0.2.2.1; omega
  clear h0 h1
  obtain ⟨V, hV⟩ : ∃ V, subs A B = V := ⟨_, rfl⟩
  rw [hV]
  have HVV := Lib.hid hV
  clear hV
  go_enter Tryd.func20, Tryd.ntmps20
  go_wp2_with fail
  refine (rvalid_c a0 n0 c0 A w H0.out).mono ?_
  rintro e w1 ⟨rfl, hb1⟩
  have B1 := Lib.hid hb1; clear hb1
  cases hA : vld A with
  | false =>
    have HN : Hid (V = false) := Lib.hid (by rw [← HVV.out]; unfold subs; rw [hA]; rfl)
    clear hA
    go_wp2
    refine bodyPost_ret (results_tmp rfl _ _ _) rfl ?_
    exact ⟨by rw [HN.out]; rfl, B1.out⟩
  | true =>
    have HA := Lib.hid hA
    clear hA
    go_wp2_with fail
    refine (rvalid_c a1 n1 c1 B w1 (H1.out.below B1.out)).mono ?_
    rintro e w2 ⟨rfl, hb2⟩
    have B2 := Lib.hid (B1.out.trans (hb2.mono B1.out.size)); clear hb2
    cases hB : vld B with
    | false =>
      have HN : Hid (V = false) := Lib.hid (by rw [← HVV.out]; unfold subs; rw [hB]; simp)
      clear hB
      go_wp2
      refine bodyPost_ret (results_tmp rfl _ _ _) rfl ?_
      exact ⟨by rw [HN.out]; rfl, B2.out⟩
    | true =>
      have HB := Lib.hid hB
      clear hB
      have HV : Hid (decide (∀ x ∈ A, x ∈ B) = V) := Lib.hid (by rw [← HVV.out]; unfold subs; rw [HA.out, HB.out]; rfl)
      go_wp2
      go_loopw [5] (fun s wr => ∃ i : Nat, i ≤ n0 ∧ s = .int .i64 (i : Nat) ∧ Hid (∀ k, k < i → A.getD k d0 ∈ B) ∧ Hid (Below w.heap.size w wr)) (fun s _ => n0 - (intOf s).toNat)
      case atStart => exact ⟨0, by omega, rfl, Lib.hid (fun k hk => absurd hk (Nat.not_lt_zero k)), B2⟩
      case round =>
        clear B2
        obtain ⟨i, hi, rfl, hin, HBL⟩ := hrel
        by_cases hlt : i < n0
        · obtain ⟨b, off, rfl, hb, hc⟩ := (H0.out.below HBL.out).at (by omega)
          obtain ⟨k0, k1⟩ := hc i hlt
          clear hc
          obtain ⟨u, hu⟩ : ∃ u, (A.getD i d0).1 = u := ⟨_, rfl⟩
          obtain ⟨o, ho⟩ : ∃ o, (A.getD i d0).2 = o := ⟨_, rfl⟩
          rw [hu] at k0
          rw [ho] at k1
          have HE : Hid (A.getD i d0 = (u, o)) := Lib.hid (by rw [← hu, ← ho])
          have hi0 : (0 : Int) ≤ (i : Int) := by omega
          have hi1 : (i : Int) < (n0 : Int) := by omega
          clear hu ho
          go_wp2_with fail
          refine (has_c a1 n1 c1 B u o wr (H1.out.below HBL.out)).mono ?_
          rintro e w3 ⟨rfl, hb3⟩
          have B3 := Lib.hid (HBL.out.trans (hb3.mono HBL.out.size)); clear hb3 k0 k1 hb
          by_cases hm : (u, o) ∈ B
          · rw [decide_eq_true hm]
            have HI : Hid (∀ k, k < i + 1 → A.getD k d0 ∈ B) := Lib.hid (fun k hk => by
              rcases Nat.lt_or_ge k i with h | h
              · exact hin.out k h
              · obtain rfl : k = i := by omega
                rw [HE.out]; exact hm)
            clear hm
            go_wp2
            go_roundw
            case rel => exact ⟨i + 1, by omega, by go_num, HI, B3⟩
            case measure => simp [intOf]; omega
          · rw [decide_eq_false hm]
            have HN : Hid (V = false) := Lib.hid (by
              rw [← HV.out, decide_eq_false_iff_not]
              intro h
              exact hm (h _ (mem_at (x := (u, o)) (by rw [H0.out.1]; exact hlt) HE.out)))
            clear hm
            go_wp2
            refine bodyPost_ret (results_tmp rfl _ _ _) rfl ?_
            exact ⟨by rw [HN.out]; rfl, B3.out⟩
        · have HN : Hid (V = true) := Lib.hid (by
            rw [← HV.out, decide_eq_true_iff]
            exact all_at (fun k hk => hin.out k (by rw [H0.out.1] at hk; omega)))
          go_wp2
          refine bodyPost_ret (results_tmp rfl _ _ _) rfl ?_
          exact ⟨by rw [HN.out]; rfl, HBL.out⟩

end Go.Proofs.YtljgcjmelmpgoaaDoor
