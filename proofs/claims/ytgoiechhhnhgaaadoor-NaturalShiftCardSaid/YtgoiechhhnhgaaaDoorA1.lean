/- Walks of layer 1: trim, the reference's Same. -/
import Derived.Test.YtgoiechhhnhgaaaDoorBase
namespace Go.Proofs.YtgoiechhhnhgaaaDoor
open Go.RowKit
set_option linter.unusedVariables false
set_option maxHeartbeats 400000 in
theorem trim_c (a : Option Addr) (len cap : Nat) (l : List Nat) (w : World) (h : Rd w a len cap l) :
    Calls Tryd.prog 43 #[.slice a len cap] w fun e w' => e = .returned (.slice a (dig (nv l)).length cap) ∧ w = w' := by
  obtain ⟨hl, hlc, hcm, hlim, hnc, hc⟩ := h
  clear hnc
  have HL := Lib.hid hl; clear hl
  have HLIM := Lib.hid hlim; clear hlim
  rcases hc with rfl | ⟨b, off, rfl, hc⟩
  · have hz : Hid ((dig (nv l)).length = 0) := Lib.hid (by have h0 := List.length_eq_zero_iff.1 HL.out; rw [h0, nv, dig_zero]; rfl)
    go_enter Tryd.func43, Tryd.ntmps43
    go_wp2
    refine wp_loop_rounds 1 ?_; rw [rounds_succ]
    go_wp2
    go_ret
    exact ⟨by rw [hz.out]; rfl, rfl⟩
  · have HC := Lib.hid hc; clear hc
    go_enter Tryd.func43, Tryd.ntmps43
    go_wp2
    go_loop [0] (fun s => ∃ (k : Nat), k ≤ len ∧ s = .slice (some ⟨b, off, none⟩) k cap ∧ Hid (nv (l.take k) = nv l)) (fun s => match s with | .slice _ n _ => n | _ => 0)
    case atStart => exact ⟨len, by omega, rfl, Lib.hid (by rw [List.take_of_length_le (by rw [HL.out]; omega)])⟩
    case round =>
      obtain ⟨k, hk, rfl, hinv⟩ := hrel
      by_cases hk0 : k = 0
      · subst hk0
        have hz : Hid ((dig (nv l)).length = 0) := Lib.hid (by rw [← dig_take HLIM.out (k := 0) (by omega) hinv.out (.inl rfl)]; simp)
        go_wp2
        go_ret
        exact ⟨by rw [hz.out]; rfl, rfl⟩
      · obtain ⟨j, rfl⟩ : ∃ j, k = j + 1 := ⟨k - 1, by omega⟩
        obtain ⟨x, hx⟩ : ∃ x, l.getD j 0 = x := ⟨_, rfl⟩
        have hcell := HC.out j (by omega)
        rw [hx] at hcell
        by_cases hx0 : x = 0
        · have hinv2 : Hid (nv (l.take j) = nv l) := Lib.hid (by rw [← nv_take_zero (by rw [HL.out]; omega) (by rw [hx, hx0])]; exact hinv.out)
          subst hx0
          clear hx
          go_wp2
          go_round
          case rel => exact ⟨j, by omega, rfl, hinv2⟩
          case measure => simp
        · have hne : ((x : Int) == 0) = false := by simp; omega
          have hz : Hid ((dig (nv l)).length = j + 1) := Lib.hid (by rw [← dig_take HLIM.out (k := j + 1) (by rw [HL.out]; omega) hinv.out (.inr (by simp; rw [← List.getD_eq_getElem?_getD, hx]; exact hx0)), List.length_take, HL.out]; omega)
          clear hx hx0
          go_wp2
          go_ret
          exact ⟨by rw [hz.out]; rfl, rfl⟩
end Go.Proofs.YtgoiechhhnhgaaaDoor
