/- Laws: Sound. -/
import Derived.Test.YtljgcjmelmpgoaaDoorQ34
namespace Go.Proofs.YtljgcjmelmpgoaaDoor
open Go.RowKit
set_option linter.unusedVariables false

set_option maxHeartbeats 8000000 in
set_option maxRecDepth 100000 in
theorem lawSound (a0 : Option Addr) (n0 c0 : Nat) (A : List Lt) (a1 : Option Addr) (n1 c1 : Nat) (B : List Lt) (x : Int) (w : World) (h0 : SlL w a0 n0 c0 A) (h1 : SlL w a1 n1 c1 B) :
    Calls Tryd.prog 6 #[.slice a0 n0 c0, .slice a1 n1 c1, .int .i64 x] w fun e w' => e = .returned (.bool true) ∧ Below w.heap.size w w' := by
  have H0 := Lib.hid h0
  have H1 := Lib.hid h1
  clear h0 h1
  go_enter Tryd.func6, Tryd.ntmps6
  go_wp2_with fail
  refine Calls.mono (awake_c w) ?_
  rintro e w1 ⟨rfl, hb1⟩
  have B1 := Lib.hid hb1
  clear hb1
  go_wp2_with fail
  refine Calls.mono (resolve_c a0 n0 c0 A a1 n1 c1 B x w1 (H0.out.below B1.out) (H1.out.below B1.out)) ?_
  rintro e w2 ⟨v2, rfl, hO2, hb2⟩
  have B2 := Lib.hid (B1.out.trans (hb2.mono B1.out.size))
  obtain ⟨a2, c2, hv2⟩ := hO2.slice
  subst hv2
  have S2 := Lib.hid (hO2.sl rfl)
  clear hb2 hO2
  obtain ⟨R, hR⟩ : ∃ R, rlist A B x = R := ⟨_, rfl⟩
  have HR := Lib.hid hR
  rw [hR] at S2 ⊢
  clear hR
  obtain ⟨m, hm⟩ : ∃ m, R.length = m := ⟨_, rfl⟩
  have HM := Lib.hid hm
  rw [hm] at S2 ⊢
  clear hm
  by_cases hz : rcode A B x = 0
  · rw [hz]
    have HZ := Lib.hid (rcode_zero hz)
    clear hz
    have B4 := Lib.hid (B2.out.alloc B2.out.size (.cells #[.slice a0 n0 c0, .slice a1 n1 c1] 24))
    have K4 := Lib.hid (SlC.two (heap_alloc_new w2 (.cells #[.slice a0 n0 c0, .slice a1 n1 c1] 24)) (H0.out.below B4.out) (H1.out.below B4.out))
    have S4 := Lib.hid (S2.out.below ((Below.refl _ _).alloc (Nat.le_refl _) (.cells #[.slice a0 n0 c0, .slice a1 n1 c1] 24)))
    go_wp2_with fail
    refine Calls.mono (small_c _ 2 2 _ _ K4.out) ?_
    rintro e w5 ⟨rfl, hb5⟩
    have B5 := Lib.hid (B4.out.trans (hb5.mono B4.out.size))
    have S5 := Lib.hid (S4.out.below hb5)
    rw [smallC_two]
    clear hb5 K4 B4 S4 S2
    cases hs : (smallL A && smallL B) with
    | false =>
      clear hs
      go_wp2
      refine bodyPost_ret (results_tmp rfl _ _ _) rfl ?_
      exact ⟨rfl, B5.out⟩
    | true =>
      have HSA := Lib.hid (Bool.and_eq_true _ _ ▸ hs : smallL A = true ∧ smallL B = true)
      have HSR := Lib.hid (rlist_small (x := x) HSA.out.1 HSA.out.2)
      rw [HR.out] at HSR
      clear hs
      go_wp2
      go_loopw [9, 28] (fun s9 t wr => ∃ (i : Nat), i ≤ 64 ∧ t = .int .i64 (i : Nat) ∧ Hid (Below w5.heap.size w5 wr)) (fun _ t _ => 64 - (RowKit.intOf t).toNat)
      case atStart => exact ⟨0, by omega, rfl, Lib.hid (Below.refl _ _)⟩
      case round =>
        obtain ⟨i, hi, rfl, HBL⟩ := hrel
        have BW := Lib.hid (B5.out.trans (HBL.out.mono B5.out.size))
        by_cases hlt : i < 64
        · have hi0 : (0 : Int) ≤ (i : Int) := by omega
          have hi1 : (i : Int) < 64 := by omega
          go_wp2_with fail
          refine Calls.mono (holds_c a0 n0 c0 A i wr (H0.out.below BW.out) (fun j hj => smallL_iff.1 HSA.out.1 j (by rw [H0.out.1]; exact hj)) (fin_bits hlt)) ?_
          rintro e w8 ⟨rfl, hb8⟩
          have BL8 := Lib.hid (HBL.out.trans (hb8.mono HBL.out.size))
          clear hb8
          cases hh : holdsL (i : Int) A with
          | false =>
            clear hh
            go_wp2
            go_roundw
            case rel => exact ⟨i + 1, by omega, by go_num, BL8⟩
            case measure => simp [RowKit.intOf]; omega
          | true =>
            have HH := Lib.hid hh
            clear hh
            have BW8 := Lib.hid (B5.out.trans (BL8.out.mono B5.out.size))
            go_wp2_with fail
            refine Calls.mono (holds_c a1 n1 c1 B i w8 (H1.out.below BW8.out) (fun j hj => smallL_iff.1 HSA.out.2 j (by rw [H1.out.1]; exact hj)) (fin_bits hlt)) ?_
            rintro e w9 ⟨rfl, hb9⟩
            have BL9 := Lib.hid (BL8.out.trans (hb9.mono BL8.out.size))
            clear hb9
            cases hq : holdsL (i : Int) B with
            | false =>
              clear hq
              go_wp2
              go_roundw
              case rel => exact ⟨i + 1, by omega, by go_num, BL9⟩
              case measure => simp [RowKit.intOf]; omega
            | true =>
              have HC := Lib.hid (sound_math HZ.out.1 HZ.out.2.1 HZ.out.2.2.1 HH.out hq)
              rw [← HZ.out.2.2.2, HR.out] at HC
              clear hq
              go_wp2_with fail
              refine Calls.mono (holds_c a2 m c2 R i w9 (S5.out.below BL9.out) (fun j hj => smallL_iff.1 HSR.out j (by rw [HM.out]; exact hj)) (fin_bits hlt)) ?_
              rintro e w10 ⟨rfl, hb10⟩
              have BL10 := Lib.hid (BL9.out.trans (hb10.mono BL9.out.size))
              clear hb10
              rw [HC.out]
              go_wp2
              go_roundw
              case rel => exact ⟨i + 1, by omega, by go_num, BL10⟩
              case measure => simp [RowKit.intOf]; omega
        · have hne : ¬ (i : Int) < 64 := by omega
          go_wp2
          refine bodyPost_ret (results_tmp rfl _ _ _) rfl ?_
          exact ⟨rfl, BW.out⟩
  · obtain ⟨r, hr⟩ : ∃ r, rcode A B x = r := ⟨_, rfl⟩
    rw [hr] at hz ⊢
    have hrn : (r != 0) = true := by simpa using hz
    clear hz hr
    go_wp2
    refine bodyPost_ret (results_tmp rfl _ _ _) rfl ?_
    exact ⟨rfl, B2.out⟩

end Go.Proofs.YtljgcjmelmpgoaaDoor
