/- Walks of layer 11: the reference's Index. -/
import Derived.Test.YtlbmllhjmgccaaaW4
namespace Go.Proofs.Ytlbmllhjmgccaaa
open Go.RowKit

set_option maxHeartbeats 1600000 in
theorem rindex_c (a a' : Option Addr) (len cap len' cap' : Nat) (l t : List Int) (w : World) (h : Sl w a len l) (h' : Sl w a' len' t) :
    Calls Try.prog 17 #[.slice a len cap, .slice a' len' cap'] w fun e w' => e = .returned (.tuple #[.int .i64 (ixv l t).1, .int .i64 (ixv l t).2]) ∧ ∃ n, w' = w.drewN n := by
  have h0 := h
  obtain ⟨hl, hm, hb, hc⟩ := h
  obtain ⟨hl', hm', hb', hc'⟩ := h'
  have HL := Lib.hid hl; clear hl
  have HL' := Lib.hid hl'; clear hl'
  have H0 := Lib.hid h0; clear h0
  by_cases hok : okB l = true
  · by_cases hll : len' = len
    · have HO := Lib.hid hok
      have hlen := ok_len hok
      rw [HL.out] at hlen
      obtain ⟨hlen1, hlen2⟩ := hlen
      subst hll
      rcases hc with hc | ⟨b, off, rfl, hc⟩
      · omega
      rcases hc' with hc' | ⟨b', off', rfl, hc'⟩
      · omega
      have HC := Lib.hid hc; clear hc
      have HC' := Lib.hid hc'; clear hc'
      have hz : Hid (ixv l t = ixgo 0 l t) := Lib.hid (by unfold ixv; rw [if_pos ⟨HO.out, by rw [HL.out, HL'.out]⟩])
      go_enter Try.func17, Try.ntmps17
      go_wp2_with (go_at_call 13; refine (rvalid_c _ _ _ l _ H0.out).mono ?_; rintro e w' ⟨rfl, rfl⟩)
      go_loopw [7, 6] (fun i s wr => ∃ (k : Nat) (n : Int), k ≤ len' ∧ i = .int .i64 k ∧ s = .int .i64 n ∧ 0 ≤ n ∧ n < prk l k ∧ IxInv l t k n ∧ ∃ m, wr = w.drewN m) (fun i _ _ => len' - (intOf i).toNat)
      case atStart => exact ⟨0, 0, by omega, rfl, rfl, by omega, by rw [prk_zero]; omega, ixInv_zero l t, 0, rfl⟩
      case round =>
        obtain ⟨k, n, hk, rfl, rfl, hn0, hn1, hinv, m, rfl⟩ := hrel
        have hp := prk_bd HO.out k
        by_cases hlt : k < len'
        · obtain ⟨d, hd⟩ : ∃ d, l.getD k 0 = d := ⟨_, rfl⟩
          have hcell := HC.out k hlt
          rw [hd] at hcell
          obtain ⟨x, hx⟩ : ∃ x, t.getD k 0 = x := ⟨_, rfl⟩
          have hcell' := HC'.out k hlt
          rw [hx] at hcell'
          have hd2 := ok_at HO.out (by rw [HL.out]; exact hlt) hd
          have hs := Lib.hid (prk_succ (by rw [HL.out]; exact hlt) hd)
          by_cases hbad : x < 0 ∨ d ≤ x
          · have hfin : Hid (ixv l t = (0, 2)) := Lib.hid (by rw [hz.out]; exact ixInv_bad hinv (by rw [HL.out]; exact hlt) (by rw [HL'.out]; exact hlt) hd hx hbad)
            clear hd hx
            by_cases hneg : x < 0
            · clear hbad
              go_wp2
              go_quiet (fail)
              go_wp2
              go_ret2
              exact ⟨ret_two (by rw [hfin.out]), drewN_more _ _ _⟩
            · have hbad : d ≤ x := by omega
              have hng : decide (x < 0) = false := by simpa using hneg
              go_wp2
              go_quiet (fail)
              go_wp2
              go_ret2
              exact ⟨ret_two (by rw [hfin.out]), drewN_more _ _ _⟩
          · have x0 : 0 ≤ x := by omega
            have x1 : x < d := by omega
            clear hbad
            have hng : decide (x < 0) = false := by simpa using x0
            have hst := ixInv_step hinv (by rw [HL.out]; exact hlt) (by rw [HL'.out]; exact hlt) hd hx x0 x1
            have hbd := ix_bd hn0 hn1 hp.2 hd2.1 hd2.2 x0 x1
            clear hd hx
            go_wp2
            go_quiet (fail)
            go_wp2
            go_quiet (fail)
            go_wp2
            go_roundw
            case rel => exact ⟨k + 1, n * d + x, by omega, by go_num, rfl, by omega, by rw [hs.out]; omega, hst, _, rfl⟩
            case measure => simp [intOf]; omega
        · have hkl : k = len' := by omega
          subst hkl
          have hfin : Hid (ixv l t = (n, 0)) := Lib.hid (by rw [hz.out]; rw [← HL.out] at hinv; exact ixInv_end hinv)
          go_wp2
          go_ret2
          exact ⟨ret_two (by rw [hfin.out]), _, rfl⟩
    · have hz : Hid (ixv l t = (0, 1)) := Lib.hid (by unfold ixv; rw [if_neg (by rw [HL.out, HL'.out]; exact fun h => hll h.2)])
      have hne : ((len' : Int) != (len : Int)) = true := by rw [bne_iff_ne]; omega
      clear hc hc'
      go_enter Try.func17, Try.ntmps17
      go_wp2_with (go_at_call 13; refine (rvalid_c _ _ _ l _ H0.out).mono ?_; rintro e w' ⟨rfl, rfl⟩)
      go_ret2
      exact ⟨ret_two (by rw [hz.out]), 0, rfl⟩
  · have hok : okB l = false := by simpa using hok
    have hz : Hid (ixv l t = (0, 1)) := Lib.hid (by unfold ixv; rw [if_neg (by rw [hok]; simp)])
    clear hc hc'
    go_enter Try.func17, Try.ntmps17
    go_wp2_with (go_at_call 13; refine (rvalid_c _ _ _ l _ H0.out).mono ?_; rintro e w' ⟨rfl, rfl⟩)
    go_ret2
    exact ⟨ret_two (by rw [hz.out]), 0, rfl⟩
end Go.Proofs.Ytlbmllhjmgccaaa
