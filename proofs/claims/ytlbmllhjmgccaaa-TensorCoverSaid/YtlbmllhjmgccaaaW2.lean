/- Walks of layer 11: Valid, the reference's Valid and Size. -/
import Derived.Test.YtlbmllhjmgccaaaW1
namespace Go.Proofs.Ytlbmllhjmgccaaa
open Go.RowKit
theorem ret_bool {a b : Bool} (h : a = b) : Ending.returned (.bool a) = .returned (.bool b) := by rw [h]

theorem valid_c (a : Option Addr) (len cap : Nat) (l : List Int) (w : World) (h : Sl w a len l) :
    Calls Try.prog 12 #[.slice a len cap] w fun e w' => e = .returned (.bool (okB l)) ∧ w = w' := by
  go_enter Try.func12, Try.ntmps12
  go_wp2_with (go_at_call 14; refine (size_c _ _ _ l _ h).mono ?_; rintro e w' ⟨rfl, rfl⟩)
  go_ret
  exact ⟨ret_bool rfl, rfl⟩

set_option maxHeartbeats 800000 in
theorem rvalid_c (a : Option Addr) (len cap : Nat) (l : List Int) (w : World) (h : Sl w a len l) :
    Calls Try.prog 13 #[.slice a len cap] w fun e w' => e = .returned (.bool (okB l)) ∧ w = w' := by
  obtain ⟨hl, hm, hb, hc⟩ := h
  have HL := Lib.hid hl; clear hl
  by_cases h1 : len < 1
  · have hz : Hid (okB l = false) := Lib.hid (okB_false (by unfold szv; rw [if_pos (by rw [HL.out]; omega)]))
    clear hc
    go_enter Try.func13, Try.ntmps13
    go_wp2
    go_ret
    exact ⟨ret_bool hz.out.symm, rfl⟩
  · by_cases h4 : 4 < len
    · have hz : Hid (okB l = false) := Lib.hid (okB_false (by unfold szv; rw [if_pos (by rw [HL.out]; omega)]))
      clear hc
      go_enter Try.func13, Try.ntmps13
      go_wp2
      go_ret
      exact ⟨ret_bool hz.out.symm, rfl⟩
    · have hz : Hid (szv l = szgo 1 l) := Lib.hid (by unfold szv; rw [if_neg (by rw [HL.out]; omega)])
      rcases hc with hc | ⟨b, off, rfl, hc⟩
      · omega
      have HC := Lib.hid hc; clear hc
      go_enter Try.func13, Try.ntmps13
      go_wp2
      go_loop [4, 3] (fun i s => ∃ (k : Nat) (z : Int), k ≤ len ∧ i = .int .i64 k ∧ s = .int .i64 z ∧ 1 ≤ z ∧ z ≤ 16384 ∧ SzInv l k z) (fun i _ => len - (intOf i).toNat)
      case atStart => exact ⟨0, 1, by omega, rfl, rfl, by omega, by omega, szInv_zero l⟩
      case round =>
        obtain ⟨k, z, hk, rfl, rfl, hz1, hz2, hinv⟩ := hrel
        by_cases hlt : k < len
        · obtain ⟨d, hd⟩ : ∃ d, l.getD k 0 = d := ⟨_, rfl⟩
          have hcell := HC.out k hlt
          rw [hd] at hcell
          have HD := Lib.hid hd; clear hd
          by_cases hbad : d < 1 ∨ 16384 < d
          · have hfin : Hid (okB l = false) := Lib.hid (okB_false (by rw [hz.out]; exact szInv_bad hinv (by rw [HL.out]; exact hlt) HD.out hbad))
            rcases hbad with hbad | hbad
            · go_wp2
              go_ret
              exact ⟨ret_bool hfin.out.symm, rfl⟩
            · go_wp2
              go_ret
              exact ⟨ret_bool hfin.out.symm, rfl⟩
          · have d1 : 1 ≤ d := by omega
            have d2 : d ≤ 16384 := by omega
            clear hbad
            have hmb := mul_bd hz1 hz2 d1 d2
            by_cases hbig : 16384 < z * d
            · have hfin : Hid (okB l = false) := Lib.hid (okB_false (by rw [hz.out]; exact szInv_big hinv (by rw [HL.out]; exact hlt) HD.out d1 d2 hbig))
              go_wp2
              go_ret
              exact ⟨ret_bool hfin.out.symm, rfl⟩
            · have hs := szInv_step hinv (by rw [HL.out]; exact hlt) HD.out d1 d2 (by omega)
              have hle : z * d ≤ 16384 := by omega
              go_wp2
              go_round
              case rel => exact ⟨k + 1, z * d, by omega, by go_num, rfl, by omega, by omega, hs⟩
              case measure => simp [intOf]; omega
        · have hkl : k = len := by omega
          subst hkl
          have hfin : Hid (okB l = true) := Lib.hid (okB_true (by rw [hz.out]; rw [← HL.out] at hinv; rw [szInv_end hinv]; omega))
          go_wp2
          go_ret
          exact ⟨ret_bool hfin.out.symm, rfl⟩

set_option maxHeartbeats 400000 in
theorem rsize_c (a : Option Addr) (len cap : Nat) (l : List Int) (w : World) (h : Sl w a len l) :
    Calls Try.prog 15 #[.slice a len cap] w fun e w' => e = .returned (.int .i64 (szv l)) ∧ w = w' := by
  have h0 := h
  obtain ⟨hl, hm, hb, hc⟩ := h
  have HL := Lib.hid hl; clear hl
  have H0 := Lib.hid h0; clear h0
  by_cases hok : okB l = true
  · have HO := Lib.hid hok
    have h1 := ok_len hok
    rcases hc with hc | ⟨b, off, rfl, hc⟩
    · rw [HL.out] at h1; omega
    have hlen : len ≤ 4 := by rw [← HL.out]; exact h1.2
    have HC := Lib.hid hc; clear hc
    clear h1
    go_enter Try.func15, Try.ntmps15
    go_wp2_with (go_at_call 13; refine (rvalid_c _ _ _ l _ H0.out).mono ?_; rintro e w' ⟨rfl, rfl⟩)
    go_loop [4, 3] (fun i s => ∃ (k : Nat), k ≤ len ∧ i = .int .i64 k ∧ s = .int .i64 (prk l k)) (fun i _ => len - (intOf i).toNat)
    case atStart => exact ⟨0, by omega, rfl, by rw [prk_zero]⟩
    case round =>
      obtain ⟨k, hk, rfl, rfl⟩ := hrel
      have hp := prk_bd HO.out k
      by_cases hlt : k < len
      · obtain ⟨d, hd⟩ : ∃ d, l.getD k 0 = d := ⟨_, rfl⟩
        have hcell := HC.out k hlt
        rw [hd] at hcell
        have hd2 := ok_at HO.out (by rw [HL.out]; exact hlt) hd
        have hs := Lib.hid (prk_succ (by rw [HL.out]; exact hlt) hd)
        clear hd
        have hmb := mul_bd hp.1 hp.2 hd2.1 hd2.2
        go_wp2
        go_round
        case rel => exact ⟨k + 1, by omega, by go_num, by rw [hs.out]⟩
        case measure => simp [intOf]; omega
      · have hkl : k = len := by omega
        subst hkl
        have hfin : Hid (szv l = prk l k) := Lib.hid (by rw [← prk_all HO.out, HL.out])
        go_wp2
        go_ret
        exact ⟨ret_int hfin.out.symm, rfl⟩
  · have hok : okB l = false := by simpa using hok
    have hz : Hid (szv l = 0) := Lib.hid (by have := szv_bd l; simp [okB] at hok; omega)
    clear hc
    go_enter Try.func15, Try.ntmps15
    go_wp2_with (go_at_call 13; refine (rvalid_c _ _ _ l _ H0.out).mono ?_; rintro e w' ⟨rfl, rfl⟩)
    go_ret
    exact ⟨ret_int hz.out.symm, rfl⟩
end Go.Proofs.Ytlbmllhjmgccaaa
