/- Walks of layer 11: Size. -/
import Derived.Test.YtlbmllhjmgccaaaChecked
import Derived.Test.YtlbmllhjmgccaaaPlain
import Derived.WalkKit
import Derived.ProofKit
import Derived.BigQuiet
import Derived.Deep.QuietTactic
import Derived.Outline
import Derived.Lib.Hide
namespace Go.Proofs.Ytlbmllhjmgccaaa
open Go.RowKit

/-- a slice of ints that reads as the list l -/
def Sl (w : World) (a : Option Addr) (len : Nat) (l : List Int) : Prop :=
  l.length = len ∧ len ≤ 9223372036854775807 ∧ (∀ n ∈ l, -9223372036854775808 ≤ n ∧ n ≤ 9223372036854775807) ∧
  (len = 0 ∨ ∃ b off, a = some ⟨b, off, none⟩ ∧ ∀ i, i < len → w.cell? ⟨b, off + i, none⟩ = some (.int .i64 (l.getD i 0)))

theorem ret_int {k : IntKind} {a b : Int} (h : a = b) : Ending.returned (.int k a) = .returned (.int k b) := by rw [h]

set_option maxHeartbeats 400000 in
theorem size_c (a : Option Addr) (len cap : Nat) (l : List Int) (w : World) (h : Sl w a len l) :
    Calls Try.prog 14 #[.slice a len cap] w fun e w' => e = .returned (.int .i64 (szv l)) ∧ w = w' := by
  obtain ⟨hl, hm, hb, hc⟩ := h
  have HL := Lib.hid hl; clear hl
  by_cases h1 : len < 1
  · have hz : Hid (szv l = 0) := Lib.hid (by unfold szv; rw [if_pos (by rw [HL.out]; omega)])
    clear hc
    go_enter Try.func14, Try.ntmps14
    go_wp2
    go_ret
    exact ⟨ret_int hz.out.symm, rfl⟩
  · by_cases h4 : 4 < len
    · have hz : Hid (szv l = 0) := Lib.hid (by unfold szv; rw [if_pos (by rw [HL.out]; omega)])
      clear hc
      go_enter Try.func14, Try.ntmps14
      go_wp2
      go_ret
      exact ⟨ret_int hz.out.symm, rfl⟩
    · have hz : Hid (szv l = szgo 1 l) := Lib.hid (by unfold szv; rw [if_neg (by rw [HL.out]; omega)])
      rcases hc with hc | ⟨b, off, rfl, hc⟩
      · omega
      have HC := Lib.hid hc; clear hc
      go_enter Try.func14, Try.ntmps14
      go_wp2
      go_loop [16, 3] (fun i s => ∃ (k : Nat) (z : Int), k ≤ len ∧ i = .int .i64 k ∧ s = .int .i64 z ∧ 1 ≤ z ∧ z ≤ 16384 ∧ SzInv l k z) (fun i _ => len - (intOf i).toNat)
      case atStart => exact ⟨0, 1, by omega, rfl, rfl, by omega, by omega, szInv_zero l⟩
      case round =>
        obtain ⟨k, z, hk, rfl, rfl, hz1, hz2, hinv⟩ := hrel
        by_cases hlt : k < len
        · obtain ⟨d, hd⟩ : ∃ d, l.getD k 0 = d := ⟨_, rfl⟩
          have hcell := HC.out k hlt
          rw [hd] at hcell
          have HD := Lib.hid hd; clear hd
          by_cases hbad : d < 1 ∨ 16384 < d
          · have hfin : Hid (szv l = 0) := Lib.hid (by rw [hz.out]; exact szInv_bad hinv (by rw [HL.out]; exact hlt) HD.out hbad)
            rcases hbad with hbad | hbad
            · go_wp2
              go_ret
              exact ⟨ret_int hfin.out.symm, rfl⟩
            · go_wp2
              go_ret
              exact ⟨ret_int hfin.out.symm, rfl⟩
          · have d1 : 1 ≤ d := by omega
            have d2 : d ≤ 16384 := by omega
            clear hbad
            have hmb := mul_bd hz1 hz2 d1 d2
            by_cases hbig : 16384 < z * d
            · have hfin : Hid (szv l = 0) := Lib.hid (by rw [hz.out]; exact szInv_big hinv (by rw [HL.out]; exact hlt) HD.out d1 d2 hbig)
              go_wp2
              go_ret
              exact ⟨ret_int hfin.out.symm, rfl⟩
            · have hs := szInv_step hinv (by rw [HL.out]; exact hlt) HD.out d1 d2 (by omega)
              have hle : z * d ≤ 16384 := by omega
              go_wp2
              go_round
              case rel => exact ⟨k + 1, z * d, by omega, by go_num, rfl, by omega, by omega, hs⟩
              case measure => simp [intOf]; omega
        · have hkl : k = len := by omega
          subst hkl
          have hfin : Hid (szv l = z) := Lib.hid (by rw [hz.out]; rw [← HL.out] at hinv; exact szInv_end hinv)
          go_wp2
          go_ret
          exact ⟨ret_int hfin.out.symm, rfl⟩
end Go.Proofs.Ytlbmllhjmgccaaa
