/- What is too large to be checked. -/
import Derived.Test.YtigokfcoofbdlaaS3
namespace Go.Proofs.Ytigokfcoofbdlaa
open Go.RowKit
set_option linter.unusedVariables false

/-- what large answers: false means that nothing is too large -/
def LargeSays (n0 n1 : Nat) (l0 : List Int) (e : Ending) : Prop := ∃ b : Bool, e = .returned (.bool b) ∧ (b = false → n0 ≤ 12 ∧ n1 ≤ 300 ∧ ∀ k, k < n0 → l0.getD k 0 ≤ 50)
set_option maxHeartbeats 1000000 in
set_option maxRecDepth 100000 in
theorem large_c (a0 : Option Addr) (n0 c0 : Nat) (l0 : List Int) (a1 : Option Addr) (n1 c1 : Nat) (w : World) (h0 : SlI w a0 n0 c0 l0) :
    Calls Try.prog 10 #[.slice a0 n0 c0, .slice a1 n1 c1] w fun e w' => LargeSays n0 n1 l0 e ∧ w = w' := by
  have H0 := Lib.hid h0
  clear h0
  by_cases hn0 : 12 < n0
  · go_enter Try.func10, Try.ntmps10
    go_wp2
    refine bodyPost_ret (results_tmp rfl _ _ _) rfl ?_
    exact ⟨⟨true, rfl, fun h => by cases h⟩, rfl⟩
  · by_cases hn1 : 300 < n1
    · go_enter Try.func10, Try.ntmps10
      go_wp2
      refine bodyPost_ret (results_tmp rfl _ _ _) rfl ?_
      exact ⟨⟨true, rfl, fun h => by cases h⟩, rfl⟩
    · go_enter Try.func10, Try.ntmps10
      go_wp2
      go_loopw [17] (fun s wr => ∃ i : Nat, i ≤ n0 ∧ s = .int .i64 i ∧ w = wr ∧ Hid (∀ k, k < i → l0.getD k 0 ≤ 50)) (fun s _ => n0 - (intOf s).toNat)
      case atStart => exact ⟨0, by omega, rfl, rfl, Lib.hid (fun k hk => absurd hk (Nat.not_lt_zero k))⟩
      case round =>
        obtain ⟨i, hi, rfl, rfl, hno⟩ := hrel
        by_cases hlt : i < n0
        · obtain ⟨p0, o0, rfl, hc0⟩ := H0.out.at (by omega)
          have k0 := hc0 i hlt
          clear hc0
          obtain ⟨x, hx⟩ : ∃ y, l0.getD i 0 = y := ⟨_, rfl⟩
          rw [hx] at k0
          have HX := Lib.hid hx
          clear hx
          by_cases hbig : 50 < x
          · go_wp2
            refine bodyPost_ret (results_tmp rfl _ _ _) rfl ?_
            exact ⟨⟨true, rfl, fun h => by cases h⟩, rfl⟩
          · go_wp2
            go_roundw
            case rel => exact ⟨i + 1, by omega, by go_num, trivial, Lib.hid (fun k hk => by
              rcases Nat.lt_or_ge k i with h | h
              · exact hno.out k h
              · have : k = i := by omega
                rw [this, HX.out]; omega)⟩
            case measure => simp [intOf]; omega
        · have hin : i = n0 := by omega
          go_wp2
          refine bodyPost_ret (results_tmp rfl _ _ _) rfl ?_
          exact ⟨⟨false, rfl, fun _ => ⟨by omega, by omega, fun k hk => hno.out k (by omega)⟩⟩, rfl⟩

end Go.Proofs.Ytigokfcoofbdlaa
