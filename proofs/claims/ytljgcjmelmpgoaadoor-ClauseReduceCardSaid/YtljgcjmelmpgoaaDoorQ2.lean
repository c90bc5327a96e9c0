/- The reference: Valid. -/
import Derived.Test.YtljgcjmelmpgoaaDoorQ1
namespace Go.Proofs.YtljgcjmelmpgoaaDoor
open Go.RowKit
set_option linter.unusedVariables false

set_option maxHeartbeats 2000000 in
set_option maxRecDepth 100000 in
theorem rvalid_c (ad : Option Addr) (n cap : Nat) (L : List Lt) (w : World) (hs : SlL w ad n cap L) :
    Calls Tryd.prog 16 #[.slice ad n cap] w fun e w' => e = .returned (.bool (vld L)) ∧ Below w.heap.size w w' := by
  have HS := Lib.hid hs
  have hcap : n ≤ 9223372036854775807 := by have := hs.2.1; have := hs.2.2.1; omega
  clear hs
  obtain ⟨V, hV⟩ : ∃ V, vld L = V := ⟨_, rfl⟩
  rw [hV]
  have HV := Lib.hid hV
  clear hV
  go_enter Tryd.func16, Tryd.ntmps16
  go_wp2
  go_loopw [3] (fun s wr => ∃ (i : Nat) (last : Int), i ≤ n ∧ s = .int .i64 (i : Nat) ∧ -1 ≤ last ∧ (i = 0 → last = -1) ∧ Hid (∀ j, i = j + 1 → (L.getD j d0).1 = last) ∧ Hid (vldFrom last (L.drop i) = V) ∧ Hid (Below w.heap.size w wr)) (fun s _ => n - (intOf s).toNat)
  case atStart => exact ⟨0, -1, by omega, rfl, by omega, fun _ => rfl, Lib.hid (fun j hj => by omega), HV, Lib.hid (Below.refl _ _)⟩
  case round =>
    obtain ⟨i, last, hi, rfl, hl1, hl0, HLA, HF, HB⟩ := hrel
    by_cases hlt : i < n
    · obtain ⟨b, off, rfl, hb, hc⟩ := (HS.out.below HB.out).at (by omega)
      have k0 := (hc i hlt).1
      have HC := Lib.hid hc
      clear hc
      obtain ⟨u, hu⟩ : ∃ u, (L.getD i d0).1 = u := ⟨_, rfl⟩
      rw [hu] at k0
      have HST := Lib.hid (vld_step (last := last) (by rw [HS.out.1]; exact hlt) hu)
      have HU := Lib.hid hu
      clear hu
      have hi0 : (0 : Int) ≤ (i : Int) := by omega
      have hi1 : (i : Int) < (n : Int) := by omega
      by_cases h0 : u < 0
      · have d1 : decide (u < 0) = true := decide_eq_true h0
        have HN : Hid (V = false) := Lib.hid (by rw [← HF.out, HST.out, decide_eq_false (by omega)]; simp)
        clear h0 hl0
        go_wp2
        go_quiet (fail)
        go_wp2
        refine bodyPost_ret (results_tmp rfl _ _ _) rfl ?_
        exact ⟨by rw [HN.out]; rfl, below_drewN HB.out _⟩
      · have d1 : decide (u < 0) = false := decide_eq_false h0
        by_cases h2 : u < 1024
        · have d2 : decide (1024 ≤ u) = false := decide_eq_false (by omega)
          cases i with
          | zero =>
            have hl := hl0 rfl
            have HN : Hid (vldFrom u (L.drop (0 + 1)) = V) := Lib.hid (by rw [← HF.out, HST.out, hl, decide_eq_true (by omega), decide_eq_true h2]; rfl)
            have HLN : Hid (∀ j, 0 + 1 = j + 1 → (L.getD j d0).1 = u) := Lib.hid (fun j hj => by
              obtain rfl : j = 0 := by omega
              exact HU.out)
            have hn0 : 0 < n := hlt
            rw [Nat.zero_mul, Nat.add_zero] at k0
            clear hl0 hl HLA h2 hi0 hi1
            go_wp2
            go_quiet (fail)
            go_wp2
            go_roundw
            case rel => exact ⟨0 + 1, u, by omega, by go_num, by omega, by omega, HLN, HN, Lib.hid (below_drewN HB.out _)⟩
            case measure => simp [intOf]; omega
          | succ j =>
            have kp := (HC.out j (by omega)).1
            rw [HLA.out j rfl] at kp
            have d3 : decide ((0 : Int) < ((j + 1 : Nat) : Int)) = true := decide_eq_true (by omega)
            have d4 : decide ((0 : Int) < (j : Int) + 1) = true := decide_eq_true (by omega)
            have w1 : IntKind.i64.wrap (j : Int) = (j : Int) := by apply IntWalk.i64_in _ <;> omega
            have w2 : IntKind.i64.wrap ((j : Int) + 1 - 1) = (j : Int) := by rw [show (j : Int) + 1 - 1 = j by omega]; exact w1
            have j0 : (0 : Int) ≤ (j : Int) := by omega
            have j1 : (j : Int) < (n : Int) := by omega
            have HLN : Hid (∀ q, j + 1 + 1 = q + 1 → (L.getD q d0).1 = u) := Lib.hid (fun q hq => by
              obtain rfl : q = j + 1 := by omega
              exact HU.out)
            by_cases h3 : last < u
            · have d5 : decide (u ≤ last) = false := decide_eq_false (by omega)
              have HN : Hid (vldFrom u (L.drop (j + 1 + 1)) = V) := Lib.hid (by rw [← HF.out, HST.out, decide_eq_true h3, decide_eq_true h2]; rfl)
              clear h3 h2 hl0 HLA
              go_wp2
              go_quiet (fail)
              go_wp2
              go_roundw
              case rel => exact ⟨j + 1 + 1, u, by omega, by go_num, by omega, by omega, HLN, HN, Lib.hid (below_drewN HB.out _)⟩
              case measure => simp [intOf]; omega
            · have d5 : decide (u ≤ last) = true := decide_eq_true (by omega)
              have HN : Hid (V = false) := Lib.hid (by rw [← HF.out, HST.out, decide_eq_false h3]; simp)
              clear h3 h2 hl0 HLA
              go_wp2
              go_quiet (fail)
              go_wp2
              refine bodyPost_ret (results_tmp rfl _ _ _) rfl ?_
              exact ⟨by rw [HN.out]; rfl, below_drewN HB.out _⟩
        · have d2 : decide (1024 ≤ u) = true := decide_eq_true (by omega)
          have HN : Hid (V = false) := Lib.hid (by rw [← HF.out, HST.out, decide_eq_false h2]; simp)
          clear h0 h2 hl0
          go_wp2
          go_quiet (fail)
          go_wp2
          refine bodyPost_ret (results_tmp rfl _ _ _) rfl ?_
          exact ⟨by rw [HN.out]; rfl, below_drewN HB.out _⟩
    · have hin : i = n := by omega
      have HN : Hid (V = true) := Lib.hid (by rw [← HF.out, List.drop_of_length_le (by rw [HS.out.1]; omega)]; rfl)
      go_wp2
      refine bodyPost_ret (results_tmp rfl _ _ _) rfl ?_
      exact ⟨by rw [HN.out]; rfl, HB.out⟩

end Go.Proofs.YtljgcjmelmpgoaaDoor
