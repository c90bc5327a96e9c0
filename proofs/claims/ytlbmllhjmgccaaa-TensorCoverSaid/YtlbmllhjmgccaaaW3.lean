/- Walks of layer 11: Index, the reference's Index, Ints. -/
import Derived.Test.YtlbmllhjmgccaaaW2
namespace Go.Proofs.Ytlbmllhjmgccaaa
open Go.RowKit
theorem ret_two {a b c d : Int} (h : (a, b) = (c, d)) : Ending.returned (.tuple #[.int .i64 a, .int .i64 b]) = .returned (.tuple #[.int .i64 c, .int .i64 d]) := by cases h; rfl

set_option maxHeartbeats 800000 in
theorem index_c (a a' : Option Addr) (len cap len' cap' : Nat) (l t : List Int) (w : World) (h : Sl w a len l) (h' : Sl w a' len' t) :
    Calls Try.prog 16 #[.slice a len cap, .slice a' len' cap'] w fun e w' => e = .returned (.tuple #[.int .i64 (ixv l t).1, .int .i64 (ixv l t).2]) ∧ w = w' := by
  have h0 := h
  obtain ⟨hl, hm, hb, hc⟩ := h
  obtain ⟨hl', hm', hb', hc'⟩ := h'
  have HL := Lib.hid hl; clear hl
  have HL' := Lib.hid hl'; clear hl'
  have H0 := Lib.hid h0; clear h0
  by_cases hok : okB l = true
  · by_cases hll : len' = len
    · have HO := Lib.hid hok
      have hlen := ok_len hok
      rw [HL.out] at hlen
      obtain ⟨hlen1, hlen2⟩ := hlen
      subst hll
      rcases hc with hc | ⟨b, off, rfl, hc⟩
      · omega
      rcases hc' with hc' | ⟨b', off', rfl, hc'⟩
      · omega
      have HC := Lib.hid hc; clear hc
      have HC' := Lib.hid hc'; clear hc'
      have hz : Hid (ixv l t = ixgo 0 l t) := Lib.hid (by unfold ixv; rw [if_pos ⟨HO.out, by rw [HL.out, HL'.out]⟩])
      go_enter Try.func16, Try.ntmps16
      go_wp2_with (go_at_call 12; refine (valid_c _ _ _ l _ H0.out).mono ?_; rintro e w' ⟨rfl, rfl⟩)
      go_loop [21, 6] (fun i s => ∃ (k : Nat) (n : Int), k ≤ len' ∧ i = .int .i64 k ∧ s = .int .i64 n ∧ 0 ≤ n ∧ n < prk l k ∧ IxInv l t k n) (fun i _ => len' - (intOf i).toNat)
      case atStart => exact ⟨0, 0, by omega, rfl, rfl, by omega, by rw [prk_zero]; omega, ixInv_zero l t⟩
      case round =>
        obtain ⟨k, n, hk, rfl, rfl, hn0, hn1, hinv⟩ := hrel
        have hp := prk_bd HO.out k
        by_cases hlt : k < len'
        · obtain ⟨d, hd⟩ : ∃ d, l.getD k 0 = d := ⟨_, rfl⟩
          have hcell := HC.out k hlt
          rw [hd] at hcell
          obtain ⟨x, hx⟩ : ∃ x, t.getD k 0 = x := ⟨_, rfl⟩
          have hcell' := HC'.out k hlt
          rw [hx] at hcell'
          have hd2 := ok_at HO.out (by rw [HL.out]; exact hlt) hd
          have hs := Lib.hid (prk_succ (by rw [HL.out]; exact hlt) hd)
          by_cases hbad : x < 0 ∨ d ≤ x
          · have hfin : Hid (ixv l t = (0, 2)) := Lib.hid (by rw [hz.out]; exact ixInv_bad hinv (by rw [HL.out]; exact hlt) (by rw [HL'.out]; exact hlt) hd hx hbad)
            clear hd hx
            rcases hbad with hbad | hbad
            · go_wp2
              go_ret2
              exact ⟨ret_two (by rw [hfin.out]), rfl⟩
            · by_cases hneg : x < 0
              · go_wp2
                go_ret2
                exact ⟨ret_two (by rw [hfin.out]), rfl⟩
              · go_wp2
                go_ret2
                exact ⟨ret_two (by rw [hfin.out]), rfl⟩
          · have x0 : 0 ≤ x := by omega
            have x1 : x < d := by omega
            clear hbad
            have hst := ixInv_step hinv (by rw [HL.out]; exact hlt) (by rw [HL'.out]; exact hlt) hd hx x0 x1
            have hbd := ix_bd hn0 hn1 hp.2 hd2.1 hd2.2 x0 x1
            clear hd hx
            go_wp2
            go_round
            case rel => exact ⟨k + 1, n * d + x, by omega, by go_num, rfl, by omega, by rw [hs.out]; omega, hst⟩
            case measure => simp [intOf]; omega
        · have hkl : k = len' := by omega
          subst hkl
          have hfin : Hid (ixv l t = (n, 0)) := Lib.hid (by rw [hz.out]; rw [← HL.out] at hinv; exact ixInv_end hinv)
          go_wp2
          go_ret2
          exact ⟨ret_two (by rw [hfin.out]), rfl⟩
    · have hz : Hid (ixv l t = (0, 1)) := Lib.hid (by unfold ixv; rw [if_neg (by rw [HL.out, HL'.out]; exact fun h => hll h.2)])
      have hne : ((len' : Int) != (len : Int)) = true := by rw [bne_iff_ne]; omega
      clear hc hc'
      go_enter Try.func16, Try.ntmps16
      go_wp2_with (go_at_call 12; refine (valid_c _ _ _ l _ H0.out).mono ?_; rintro e w' ⟨rfl, rfl⟩)
      go_ret2
      exact ⟨ret_two (by rw [hz.out]), rfl⟩
  · have hok : okB l = false := by simpa using hok
    have hz : Hid (ixv l t = (0, 1)) := Lib.hid (by unfold ixv; rw [if_neg (by rw [hok]; simp)])
    clear hc hc'
    go_enter Try.func16, Try.ntmps16
    go_wp2_with (go_at_call 12; refine (valid_c _ _ _ l _ H0.out).mono ?_; rintro e w' ⟨rfl, rfl⟩)
    go_ret2
    exact ⟨ret_two (by rw [hz.out]), rfl⟩

theorem drewN_more (w : World) (n m : Nat) : ∃ k, (w.drewN n).drewN m = w.drewN k := ⟨n + m, by simp⟩
theorem Sl.drewN {w : World} {a : Option Addr} {len : Nat} {l : List Int} (h : Sl w a len l) (n : Nat) : Sl (w.drewN n) a len l := by
  obtain ⟨h1, h2, h3, h4⟩ := h
  refine ⟨h1, h2, h3, ?_⟩
  rcases h4 with h4 | ⟨b, off, e, h4⟩
  · exact .inl h4
  · exact .inr ⟨b, off, e, fun i hi => by simpa using h4 i hi⟩

set_option maxHeartbeats 800000 in
theorem ints_c (a a' : Option Addr) (len cap len' cap' : Nat) (l t : List Int) (w : World) (h : Sl w a len l) (h' : Sl w a' len' t) :
    Calls Try.prog 20 #[.slice a len cap, .slice a' len' cap'] w fun e w' => e = .returned (.bool (eqB l t)) ∧ ∃ n, w' = w.drewN n := by
  obtain ⟨hl, hm, hb, hc⟩ := h
  obtain ⟨hl', hm', hb', hc'⟩ := h'
  have HL := Lib.hid hl; clear hl
  have HL' := Lib.hid hl'; clear hl'
  by_cases hll : len = len'
  · subst hll
    by_cases hz : len = 0
    · subst hz
      have hfin : Hid (eqB l t = true) := Lib.hid (eqB_all (by rw [HL.out, HL'.out]) (by rw [HL.out]; exact takeEq_zero l t))
      clear hc hc'
      go_enter Try.func20, Try.ntmps20
      go_wp2
      refine wp_loop_rounds 1 ?_; rw [rounds_succ]
      go_wp2
      go_ret
      exact ⟨ret_bool hfin.out.symm, 0, rfl⟩
    rcases hc with hc | ⟨b, off, rfl, hc⟩
    · omega
    rcases hc' with hc' | ⟨b', off', rfl, hc'⟩
    · omega
    have HC := Lib.hid hc; clear hc
    have HC' := Lib.hid hc'; clear hc'
    go_enter Try.func20, Try.ntmps20
    go_wp2
    go_loopw [5] (fun i wr => ∃ (k : Nat), k ≤ len ∧ i = .int .i64 k ∧ TakeEq l t k ∧ ∃ n, wr = w.drewN n) (fun i _ => len - (intOf i).toNat)
    case atStart => exact ⟨0, by omega, rfl, takeEq_zero l t, 0, rfl⟩
    case round =>
      obtain ⟨k, hk, rfl, hinv, n, rfl⟩ := hrel
      by_cases hlt : k < len
      · obtain ⟨d, hd⟩ : ∃ d, l.getD k 0 = d := ⟨_, rfl⟩
        have hcell := HC.out k hlt
        rw [hd] at hcell
        obtain ⟨x, hx⟩ : ∃ x, t.getD k 0 = x := ⟨_, rfl⟩
        have hcell' := HC'.out k hlt
        rw [hx] at hcell'
        by_cases he : d = x
        · have hst := takeEq_step hinv hd hx he
          clear hd hx
          subst he
          go_wp2
          go_quiet (fail)
          go_wp2
          go_roundw
          case rel => exact ⟨k + 1, by omega, by go_num, hst, _, rfl⟩
          case measure => simp [intOf]; omega
        · have hfin : Hid (eqB l t = false) := Lib.hid (eqB_at hd hx he)
          clear hd hx
          have hne : (d != x) = true := by rw [bne_iff_ne]; exact he
          go_wp2
          go_quiet (fail)
          go_wp2
          go_ret
          exact ⟨ret_bool hfin.out.symm, drewN_more _ _ _⟩
      · have hkl : k = len := by omega
        subst hkl
        have hfin : Hid (eqB l t = true) := Lib.hid (eqB_all (by rw [HL.out, HL'.out]) (by rw [HL.out]; exact hinv))
        go_wp2
        go_ret
        exact ⟨ret_bool hfin.out.symm, _, rfl⟩
  · have hfin : Hid (eqB l t = false) := Lib.hid (eqB_len (by rw [HL.out, HL'.out]; exact hll))
    have hne : ((len : Int) != (len' : Int)) = true := by rw [bne_iff_ne]; omega
    clear hc hc'
    go_enter Try.func20, Try.ntmps20
    go_wp2
    go_ret
    exact ⟨ret_bool hfin.out.symm, 0, rfl⟩
end Go.Proofs.Ytlbmllhjmgccaaa
