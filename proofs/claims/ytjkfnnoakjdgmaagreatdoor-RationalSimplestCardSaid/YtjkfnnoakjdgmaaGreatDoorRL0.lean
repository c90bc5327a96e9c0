/- Carried over from another seat by program (port.py): layer 1. -/
import Derived.Test.YtjkfnnoakjdgmaaGreatDoorRR7
namespace Go.Proofs.YtjkfnnoakjdgmaaGreatDoor
open Go.RowKit
set_option linter.unusedVariables false
theorem aw_rb_p1 : Rb (((3 : Int) : Rat) / ((10 : Int) : Rat)) 1 := ⟨by decide +kernel, by decide +kernel⟩
theorem aw_rb_p2 : Rb (((2 : Int) : Rat) / ((5 : Int) : Rat)) 1 := ⟨by decide +kernel, by decide +kernel⟩
theorem aw_rb_p3 : Rb (((13 : Int) : Rat) / ((5 : Int) : Rat)) 1 := ⟨by decide +kernel, by decide +kernel⟩
theorem aw_rb_p4 : Rb (((31 : Int) : Rat) / ((10 : Int) : Rat)) 1 := ⟨by decide +kernel, by decide +kernel⟩
theorem aw_rb_r1 : Rb (((1 : Int) : Rat) / ((3 : Int) : Rat)) 1 := ⟨by decide +kernel, by decide +kernel⟩
theorem aw_rb_r3 : Rb (((3 : Int) : Rat) / ((1 : Int) : Rat)) 1 := ⟨by decide +kernel, by decide +kernel⟩
theorem aw_rb_hh : Rb (((1 : Int) : Rat) / ((2 : Int) : Rat)) 1 := ⟨by decide +kernel, by decide +kernel⟩
theorem aw_rb_ff : Rb (((5 : Int) : Rat) / ((6 : Int) : Rat)) 1 := ⟨by decide +kernel, by decide +kernel⟩
theorem aw_rb_mm : Rb (((-7 : Int) : Rat) / ((2 : Int) : Rat)) 1 := ⟨by decide +kernel, by decide +kernel⟩
theorem aw_1 : smpR (((3 : Int) : Rat) / ((10 : Int) : Rat)) (((2 : Int) : Rat) / ((5 : Int) : Rat)) = ((1 : Int) : Rat) / ((3 : Int) : Rat) := by decide +kernel
theorem aw_2 : smpR (((13 : Int) : Rat) / ((5 : Int) : Rat)) (((31 : Int) : Rat) / ((10 : Int) : Rat)) = ((3 : Int) : Rat) / ((1 : Int) : Rat) := by decide +kernel
theorem aw_3 : ((1 : Int) : Rat) / ((2 : Int) : Rat) + ((1 : Int) : Rat) / ((3 : Int) : Rat) = ((5 : Int) : Rat) / ((6 : Int) : Rat) := by decide +kernel
theorem aw_4 : Rat.floor (((-7 : Int) : Rat) / ((2 : Int) : Rat)) = -4 := by decide +kernel
theorem aw_5 : rC (((1 : Int) : Rat) / ((3 : Int) : Rat)) (((1 : Int) : Rat) / ((2 : Int) : Rat)) = -1 := by decide +kernel
theorem aw_6 : ((3 : Int) : Rat) / ((10 : Int) : Rat) ≤ ((2 : Int) : Rat) / ((5 : Int) : Rat) := by decide +kernel
theorem aw_7 : ((13 : Int) : Rat) / ((5 : Int) : Rat) ≤ ((31 : Int) : Rat) / ((10 : Int) : Rat) := by decide +kernel
set_option maxHeartbeats 4000000 in
theorem awake_c (w : World) (hT : Tab w) : Calls Tryz.prog 4 #[] w (BPost true w) := by
  have T_0 := Lib.hid hT
  have KW_0 := Lib.hid (Keep.refl w)
  have Fp1 := Lib.hid (fun w1 => frac_c (3) 10 w1 (by omega) (by omega) (by omega) (by omega) (by decide))
  have Fp2 := Lib.hid (fun w1 => frac_c (2) 5 w1 (by omega) (by omega) (by omega) (by omega) (by decide))
  have Fp3 := Lib.hid (fun w1 => frac_c (13) 5 w1 (by omega) (by omega) (by omega) (by omega) (by decide))
  have Fp4 := Lib.hid (fun w1 => frac_c (31) 10 w1 (by omega) (by omega) (by omega) (by omega) (by decide))
  have Fr1 := Lib.hid (fun w1 => frac_c (1) 3 w1 (by omega) (by omega) (by omega) (by omega) (by decide))
  have Fr3 := Lib.hid (fun w1 => frac_c (3) 1 w1 (by omega) (by omega) (by omega) (by omega) (by decide))
  have Fhh := Lib.hid (fun w1 => frac_c (1) 2 w1 (by omega) (by omega) (by omega) (by omega) (by decide))
  have Fff := Lib.hid (fun w1 => frac_c (5) 6 w1 (by omega) (by omega) (by omega) (by omega) (by decide))
  have Fmm := Lib.hid (fun w1 => frac_c (-7) 2 w1 (by omega) (by omega) (by omega) (by omega) (by decide))
  have OF := Lib.hid (fun w1 => riof_c (-4) w1 (by omega) (by omega))
  have SM1 := Lib.hid (fun w1 v u (hv : Cr w1 v (((3 : Int) : Rat) / ((10 : Int) : Rat))) (hu : Cr w1 u (((2 : Int) : Rat) / ((5 : Int) : Rat))) (hT1 : Tab w1) => qsimplest_c (hv.ra aw_rb_p1) (hu.ra aw_rb_p2) aw_6 (by omega) (by omega) hT1)
  have SM2 := Lib.hid (fun w1 v u (hv : Cr w1 v (((13 : Int) : Rat) / ((5 : Int) : Rat))) (hu : Cr w1 u (((31 : Int) : Rat) / ((10 : Int) : Rat))) (hT1 : Tab w1) => qsimplest_c (hv.ra aw_rb_p3) (hu.ra aw_rb_p4) aw_7 (by omega) (by omega) hT1)
  have AD := Lib.hid (fun w1 v u (hv : Cr w1 v (((1 : Int) : Rat) / ((2 : Int) : Rat))) (hu : Cr w1 u (((1 : Int) : Rat) / ((3 : Int) : Rat))) (hT1 : Tab w1) => qadd_c (hv.ra aw_rb_hh) (hu.ra aw_rb_r1) (by omega) (by omega) hT1)
  have FL := Lib.hid (fun w1 v (hv : Cr w1 v (((-7 : Int) : Rat) / ((2 : Int) : Rat))) => qfloor_c (hv.ra aw_rb_mm) (by omega) (by omega))
  have CP := Lib.hid (fun w1 v u (hv : Cr w1 v (((1 : Int) : Rat) / ((3 : Int) : Rat))) (hu : Cr w1 u (((1 : Int) : Rat) / ((2 : Int) : Rat))) => qcmp_c (hv.ra aw_rb_r1) (hu.ra aw_rb_hh) (by omega) (by omega))
  rw [aw_1] at SM1
  rw [aw_2] at SM2
  rw [aw_3] at AD
  rw [aw_4] at FL
  rw [aw_5] at CP
  obtain ⟨p1, hp1⟩ : ∃ q : Rat, ((3 : Int) : Rat) / ((10 : Int) : Rat) = q := ⟨_, rfl⟩
  rw [hp1] at Fp1 SM1
  clear hp1
  obtain ⟨p2, hp2⟩ : ∃ q : Rat, ((2 : Int) : Rat) / ((5 : Int) : Rat) = q := ⟨_, rfl⟩
  rw [hp2] at Fp2 SM1
  clear hp2
  obtain ⟨p3, hp3⟩ : ∃ q : Rat, ((13 : Int) : Rat) / ((5 : Int) : Rat) = q := ⟨_, rfl⟩
  rw [hp3] at Fp3 SM2
  clear hp3
  obtain ⟨p4, hp4⟩ : ∃ q : Rat, ((31 : Int) : Rat) / ((10 : Int) : Rat) = q := ⟨_, rfl⟩
  rw [hp4] at Fp4 SM2
  clear hp4
  obtain ⟨r1, hr1⟩ : ∃ q : Rat, ((1 : Int) : Rat) / ((3 : Int) : Rat) = q := ⟨_, rfl⟩
  rw [hr1] at Fr1 SM1 AD CP
  clear hr1
  obtain ⟨r3, hr3⟩ : ∃ q : Rat, ((3 : Int) : Rat) / ((1 : Int) : Rat) = q := ⟨_, rfl⟩
  rw [hr3] at Fr3 SM2
  clear hr3
  obtain ⟨hh, hhh⟩ : ∃ q : Rat, ((1 : Int) : Rat) / ((2 : Int) : Rat) = q := ⟨_, rfl⟩
  rw [hhh] at Fhh AD CP
  clear hhh
  obtain ⟨ff, hff⟩ : ∃ q : Rat, ((5 : Int) : Rat) / ((6 : Int) : Rat) = q := ⟨_, rfl⟩
  rw [hff] at Fff AD
  clear hff
  obtain ⟨mm, hmm⟩ : ∃ q : Rat, ((-7 : Int) : Rat) / ((2 : Int) : Rat) = q := ⟨_, rfl⟩
  rw [hmm] at Fmm FL
  clear hmm
  clear hT
  go_enter Tryz.func4, Tryz.ntmps4
  go_wp2_with fail
  refine Calls.mono (Fp1.out _) ?_
  rintro e w1 ⟨vp1, rfl, hA, k1⟩
  have T_1 := Lib.hid (T_0.out.keep k1)
  have A_1 := Lib.hid hA
  have KW_1 := Lib.hid (KW_0.out.trans k1)
  clear k1 T_0 hA KW_0
  go_wp2_with fail
  refine Calls.mono (Fp2.out _) ?_
  rintro e w2 ⟨vp2, rfl, hB, k2⟩
  have T_2 := Lib.hid (T_1.out.keep k2)
  have A_2 := Lib.hid (A_1.out.keep k2)
  have B_2 := Lib.hid hB
  have KW_2 := Lib.hid (KW_1.out.trans k2)
  clear k2 T_1 A_1 hB KW_1
  go_wp2_with fail
  refine Calls.mono (SM1.out _ _ _ A_2.out B_2.out T_2.out) ?_
  rintro e w3 ⟨vS, rfl, hS, k3⟩
  have T_3 := Lib.hid (T_2.out.keep k3)
  have CS_3 := Lib.hid hS
  have KW_3 := Lib.hid (KW_2.out.trans k3)
  clear k3 A_2 B_2 T_2 hS KW_2
  obtain ⟨aS, nS, cS, a'S, n'S, c'S, rfl, -⟩ := Cr.form CS_3.out
  have CS_3_x := CS_3.out
  obtain ⟨bS, hbS⟩ : ∃ b, decide (r1.num < 0) = b := ⟨_, rfl⟩
  rw [hbS] at CS_3_x ⊢
  have CS_3_y := Lib.hid CS_3_x
  clear CS_3_x hbS CS_3
  have T_4 := Lib.hid (T_3.out.keep ((Keep.refl _).alloc (.cells #[.bool bS, .slice aS nS cS, .slice a'S n'S c'S] 25)))
  have CS_4 := Lib.hid (CS_3_y.out.keep ((Keep.refl _).alloc (.cells #[.bool bS, .slice aS nS cS, .slice a'S n'S c'S] 25)))
  have KW_4 := Lib.hid (KW_3.out.trans ((Keep.refl _).alloc (.cells #[.bool bS, .slice aS nS cS, .slice a'S n'S c'S] 25)))
  clear T_3 CS_3_y KW_3
  have S_4 := Lib.hid (QBox.new w3 bS aS nS cS a'S n'S c'S)
  obtain ⟨S_c0, S_c1, S_c2, -, -, -, -⟩ := id S_4.out
  go_wp2_with fail
  refine Calls.mono (Fp3.out _) ?_
  rintro e w5 ⟨vp3, rfl, hA, k5⟩
  clear S_c0 S_c1 S_c2
  have T_5 := Lib.hid (T_4.out.keep k5)
  have CS_5 := Lib.hid (CS_4.out.keep k5)
  have S_5 := Lib.hid (S_4.out.keep k5)
  have A_5 := Lib.hid hA
  have KW_5 := Lib.hid (KW_4.out.trans k5)
  clear k5 T_4 CS_4 S_4 hA KW_4
  obtain ⟨S_c0, S_c1, S_c2, -, -, -, -⟩ := id S_5.out
  go_wp2_with fail
  refine Calls.mono (Fp4.out _) ?_
  rintro e w6 ⟨vp4, rfl, hB, k6⟩
  clear S_c0 S_c1 S_c2
  have T_6 := Lib.hid (T_5.out.keep k6)
  have CS_6 := Lib.hid (CS_5.out.keep k6)
  have S_6 := Lib.hid (S_5.out.keep k6)
  have A_6 := Lib.hid (A_5.out.keep k6)
  have B_6 := Lib.hid hB
  have KW_6 := Lib.hid (KW_5.out.trans k6)
  clear k6 T_5 CS_5 S_5 A_5 hB KW_5
  obtain ⟨S_c0, S_c1, S_c2, -, -, -, -⟩ := id S_6.out
  go_wp2_with fail
  refine Calls.mono (SM2.out _ _ _ A_6.out B_6.out T_6.out) ?_
  rintro e w7 ⟨vV, rfl, hS, k7⟩
  clear S_c0 S_c1 S_c2
  have T_7 := Lib.hid (T_6.out.keep k7)
  have CS_7 := Lib.hid (CS_6.out.keep k7)
  have S_7 := Lib.hid (S_6.out.keep k7)
  have CV_7 := Lib.hid hS
  have KW_7 := Lib.hid (KW_6.out.trans k7)
  clear k7 A_6 B_6 T_6 CS_6 S_6 hS KW_6
  obtain ⟨aV, nV, cV, a'V, n'V, c'V, rfl, -⟩ := Cr.form CV_7.out
  have CV_7_x := CV_7.out
  obtain ⟨bV, hbV⟩ : ∃ b, decide (r3.num < 0) = b := ⟨_, rfl⟩
  rw [hbV] at CV_7_x ⊢
  have CV_7_y := Lib.hid CV_7_x
  clear CV_7_x hbV CV_7
  have T_8 := Lib.hid (T_7.out.keep ((Keep.refl _).alloc (.cells #[.bool bV, .slice aV nV cV, .slice a'V n'V c'V] 25)))
  have CS_8 := Lib.hid (CS_7.out.keep ((Keep.refl _).alloc (.cells #[.bool bV, .slice aV nV cV, .slice a'V n'V c'V] 25)))
  have S_8 := Lib.hid (S_7.out.keep ((Keep.refl _).alloc (.cells #[.bool bV, .slice aV nV cV, .slice a'V n'V c'V] 25)))
  have CV_8 := Lib.hid (CV_7_y.out.keep ((Keep.refl _).alloc (.cells #[.bool bV, .slice aV nV cV, .slice a'V n'V c'V] 25)))
  have KW_8 := Lib.hid (KW_7.out.trans ((Keep.refl _).alloc (.cells #[.bool bV, .slice aV nV cV, .slice a'V n'V c'V] 25)))
  clear T_7 CS_7 S_7 CV_7_y KW_7
  have V_8 := Lib.hid (QBox.new w7 bV aV nV cV a'V n'V c'V)
  clear SM1 SM2 Fp1 Fp2 Fp3 Fp4
  have T_9 := Lib.hid (T_8.out.keep (keep_drew _))
  clear T_8
  have CS_9 := Lib.hid (CS_8.out.keep (keep_drew _))
  clear CS_8
  have S_9 := Lib.hid (S_8.out.keep (keep_drew _))
  clear S_8
  have CV_9 := Lib.hid (CV_8.out.keep (keep_drew _))
  clear CV_8
  have V_9 := Lib.hid (V_8.out.keep (keep_drew _))
  clear V_8
  have KW_9 := Lib.hid (KW_8.out.trans (keep_drew _))
  clear KW_8
  obtain ⟨cS_9_0, cS_9_1, cS_9_2, -, -, -, -⟩ := id S_9.out
  obtain ⟨cV_9_0, cV_9_1, cV_9_2, -, -, -, -⟩ := id V_9.out
  go_wp2
  go_region_held3 (fun w' => w'.cell? ⟨w3.heap.size, 0, none⟩ = some (.bool bS) ∧ w'.cell? ⟨w3.heap.size, 1, none⟩ = some (.slice aS nS cS) ∧ w'.cell? ⟨w3.heap.size, 2, none⟩ = some (.slice a'S n'S c'S) ∧ w'.cell? ⟨w7.heap.size, 0, none⟩ = some (.bool bV) ∧ w'.cell? ⟨w7.heap.size, 1, none⟩ = some (.slice aV nV cV) ∧ w'.cell? ⟨w7.heap.size, 2, none⟩ = some (.slice a'V n'V c'V)) (first | exact ⟨cS_25_0, cS_25_1, cS_25_2, cV_25_0, cV_25_1, cV_25_2⟩ | exact ⟨cS_24_0, cS_24_1, cS_24_2, cV_24_0, cV_24_1, cV_24_2⟩ | exact ⟨cS_23_0, cS_23_1, cS_23_2, cV_23_0, cV_23_1, cV_23_2⟩ | exact ⟨cS_22_0, cS_22_1, cS_22_2, cV_22_0, cV_22_1, cV_22_2⟩ | exact ⟨cS_21_0, cS_21_1, cS_21_2, cV_21_0, cV_21_1, cV_21_2⟩ | exact ⟨cS_20_0, cS_20_1, cS_20_2, cV_20_0, cV_20_1, cV_20_2⟩ | exact ⟨cS_19_0, cS_19_1, cS_19_2, cV_19_0, cV_19_1, cV_19_2⟩ | exact ⟨cS_18_0, cS_18_1, cS_18_2, cV_18_0, cV_18_1, cV_18_2⟩ | exact ⟨cS_17_0, cS_17_1, cS_17_2, cV_17_0, cV_17_1, cV_17_2⟩ | exact ⟨cS_16_0, cS_16_1, cS_16_2, cV_16_0, cV_16_1, cV_16_2⟩ | exact ⟨cS_15_0, cS_15_1, cS_15_2, cV_15_0, cV_15_1, cV_15_2⟩ | exact ⟨cS_14_0, cS_14_1, cS_14_2, cV_14_0, cV_14_1, cV_14_2⟩ | exact ⟨cS_13_0, cS_13_1, cS_13_2, cV_13_0, cV_13_1, cV_13_2⟩ | exact ⟨cS_12_0, cS_12_1, cS_12_2, cV_12_0, cV_12_1, cV_12_2⟩ | exact ⟨cS_11_0, cS_11_1, cS_11_2, cV_11_0, cV_11_1, cV_11_2⟩ | exact ⟨cS_10_0, cS_10_1, cS_10_2, cV_10_0, cV_10_1, cV_10_2⟩ | exact ⟨cS_9_0, cS_9_1, cS_9_2, cV_9_0, cV_9_1, cV_9_2⟩ | go_keep)
    (first
      | (go_at_call 13; ((with_reducible refine Calls.mono (CP.out _ _ _ L_24.out M_24.out) ?_); rintro e w25 ⟨rfl, k25⟩; have T_25 := Lib.hid (T_24.out.keep k25); have CS_25 := Lib.hid (CS_24.out.keep k25); have S_25 := Lib.hid (S_24.out.keep k25); have CV_25 := Lib.hid (CV_24.out.keep k25); have V_25 := Lib.hid (V_24.out.keep k25); have A_25 := Lib.hid (A_24.out.keep k25); have B_25 := Lib.hid (B_24.out.keep k25); have D_25 := Lib.hid (D_24.out.keep k25); have E_25 := Lib.hid (E_24.out.keep k25); have F_25 := Lib.hid (F_24.out.keep k25); have G_25 := Lib.hid (G_24.out.keep k25); have H_25 := Lib.hid (H_24.out.keep k25); have I_25 := Lib.hid (I_24.out.keep k25); have J_25 := Lib.hid (J_24.out.keep k25); have L_25 := Lib.hid (L_24.out.keep k25); have M_25 := Lib.hid (M_24.out.keep k25); have KW_25 := Lib.hid (KW_24.out.trans k25); obtain ⟨cS_25_0, cS_25_1, cS_25_2, -, -, -, -⟩ := id S_25.out; obtain ⟨cV_25_0, cV_25_1, cV_25_2, -, -, -, -⟩ := id V_25.out; clear k25))
      | (go_at_call 8; ((with_reducible refine Calls.mono (Fhh.out _) ?_); rintro e w24 ⟨x11, rfl, hM, k24⟩; have T_24 := Lib.hid (T_23.out.keep k24); have CS_24 := Lib.hid (CS_23.out.keep k24); have S_24 := Lib.hid (S_23.out.keep k24); have CV_24 := Lib.hid (CV_23.out.keep k24); have V_24 := Lib.hid (V_23.out.keep k24); have A_24 := Lib.hid (A_23.out.keep k24); have B_24 := Lib.hid (B_23.out.keep k24); have D_24 := Lib.hid (D_23.out.keep k24); have E_24 := Lib.hid (E_23.out.keep k24); have F_24 := Lib.hid (F_23.out.keep k24); have G_24 := Lib.hid (G_23.out.keep k24); have H_24 := Lib.hid (H_23.out.keep k24); have I_24 := Lib.hid (I_23.out.keep k24); have J_24 := Lib.hid (J_23.out.keep k24); have L_24 := Lib.hid (L_23.out.keep k24); have M_24 := Lib.hid hM; clear hM; have KW_24 := Lib.hid (KW_23.out.trans k24); obtain ⟨cS_24_0, cS_24_1, cS_24_2, -, -, -, -⟩ := id S_24.out; obtain ⟨cV_24_0, cV_24_1, cV_24_2, -, -, -, -⟩ := id V_24.out; clear k24))
      | (go_at_call 8; ((with_reducible refine Calls.mono (Fr1.out _) ?_); rintro e w23 ⟨x10, rfl, hL, k23⟩; have T_23 := Lib.hid (T_22.out.keep k23); have CS_23 := Lib.hid (CS_22.out.keep k23); have S_23 := Lib.hid (S_22.out.keep k23); have CV_23 := Lib.hid (CV_22.out.keep k23); have V_23 := Lib.hid (V_22.out.keep k23); have A_23 := Lib.hid (A_22.out.keep k23); have B_23 := Lib.hid (B_22.out.keep k23); have D_23 := Lib.hid (D_22.out.keep k23); have E_23 := Lib.hid (E_22.out.keep k23); have F_23 := Lib.hid (F_22.out.keep k23); have G_23 := Lib.hid (G_22.out.keep k23); have H_23 := Lib.hid (H_22.out.keep k23); have I_23 := Lib.hid (I_22.out.keep k23); have J_23 := Lib.hid (J_22.out.keep k23); have L_23 := Lib.hid hL; clear hL; have KW_23 := Lib.hid (KW_22.out.trans k23); obtain ⟨cS_23_0, cS_23_1, cS_23_2, -, -, -, -⟩ := id S_23.out; obtain ⟨cV_23_0, cV_23_1, cV_23_2, -, -, -, -⟩ := id V_23.out; clear k23))
      | (go_at_call 10; ((with_reducible refine Calls.mono (isame_t I_21.out J_21.out rfl) ?_); rintro e w22 ⟨rfl, k22⟩; have T_22 := Lib.hid (T_21.out.keep k22); have CS_22 := Lib.hid (CS_21.out.keep k22); have S_22 := Lib.hid (S_21.out.keep k22); have CV_22 := Lib.hid (CV_21.out.keep k22); have V_22 := Lib.hid (V_21.out.keep k22); have A_22 := Lib.hid (A_21.out.keep k22); have B_22 := Lib.hid (B_21.out.keep k22); have D_22 := Lib.hid (D_21.out.keep k22); have E_22 := Lib.hid (E_21.out.keep k22); have F_22 := Lib.hid (F_21.out.keep k22); have G_22 := Lib.hid (G_21.out.keep k22); have H_22 := Lib.hid (H_21.out.keep k22); have I_22 := Lib.hid (I_21.out.keep k22); have J_22 := Lib.hid (J_21.out.keep k22); have KW_22 := Lib.hid (KW_21.out.trans k22); obtain ⟨cS_22_0, cS_22_1, cS_22_2, -, -, -, -⟩ := id S_22.out; obtain ⟨cV_22_0, cV_22_1, cV_22_2, -, -, -, -⟩ := id V_22.out; clear k22))
      | (go_at_call 12; ((with_reducible refine Calls.mono (OF.out _) ?_); rintro e w21 ⟨x9, rfl, hJ, k21⟩; have T_21 := Lib.hid (T_20.out.keep k21); have CS_21 := Lib.hid (CS_20.out.keep k21); have S_21 := Lib.hid (S_20.out.keep k21); have CV_21 := Lib.hid (CV_20.out.keep k21); have V_21 := Lib.hid (V_20.out.keep k21); have A_21 := Lib.hid (A_20.out.keep k21); have B_21 := Lib.hid (B_20.out.keep k21); have D_21 := Lib.hid (D_20.out.keep k21); have E_21 := Lib.hid (E_20.out.keep k21); have F_21 := Lib.hid (F_20.out.keep k21); have G_21 := Lib.hid (G_20.out.keep k21); have H_21 := Lib.hid (H_20.out.keep k21); have I_21 := Lib.hid (I_20.out.keep k21); have J_21 := Lib.hid hJ; clear hJ; have KW_21 := Lib.hid (KW_20.out.trans k21); obtain ⟨cS_21_0, cS_21_1, cS_21_2, -, -, -, -⟩ := id S_21.out; obtain ⟨cV_21_0, cV_21_1, cV_21_2, -, -, -, -⟩ := id V_21.out; clear k21))
      | (go_at_call 11; ((with_reducible refine Calls.mono (FL.out _ _ H_19.out) ?_); rintro e w20 ⟨x8, rfl, hI, k20⟩; have T_20 := Lib.hid (T_19.out.keep k20); have CS_20 := Lib.hid (CS_19.out.keep k20); have S_20 := Lib.hid (S_19.out.keep k20); have CV_20 := Lib.hid (CV_19.out.keep k20); have V_20 := Lib.hid (V_19.out.keep k20); have A_20 := Lib.hid (A_19.out.keep k20); have B_20 := Lib.hid (B_19.out.keep k20); have D_20 := Lib.hid (D_19.out.keep k20); have E_20 := Lib.hid (E_19.out.keep k20); have F_20 := Lib.hid (F_19.out.keep k20); have G_20 := Lib.hid (G_19.out.keep k20); have H_20 := Lib.hid (H_19.out.keep k20); have I_20 := Lib.hid hI; clear hI; have KW_20 := Lib.hid (KW_19.out.trans k20); obtain ⟨cS_20_0, cS_20_1, cS_20_2, -, -, -, -⟩ := id S_20.out; obtain ⟨cV_20_0, cV_20_1, cV_20_2, -, -, -, -⟩ := id V_20.out; clear k20))
      | (go_at_call 8; ((with_reducible refine Calls.mono (Fmm.out _) ?_); rintro e w19 ⟨x7, rfl, hH, k19⟩; have T_19 := Lib.hid (T_18.out.keep k19); have CS_19 := Lib.hid (CS_18.out.keep k19); have S_19 := Lib.hid (S_18.out.keep k19); have CV_19 := Lib.hid (CV_18.out.keep k19); have V_19 := Lib.hid (V_18.out.keep k19); have A_19 := Lib.hid (A_18.out.keep k19); have B_19 := Lib.hid (B_18.out.keep k19); have D_19 := Lib.hid (D_18.out.keep k19); have E_19 := Lib.hid (E_18.out.keep k19); have F_19 := Lib.hid (F_18.out.keep k19); have G_19 := Lib.hid (G_18.out.keep k19); have H_19 := Lib.hid hH; clear hH; have KW_19 := Lib.hid (KW_18.out.trans k19); obtain ⟨cS_19_0, cS_19_1, cS_19_2, -, -, -, -⟩ := id S_19.out; obtain ⟨cV_19_0, cV_19_1, cV_19_2, -, -, -, -⟩ := id V_19.out; clear k19))
      | (go_at_call 7; ((with_reducible refine Calls.mono (qsame_t CV_17.out G_17.out) ?_); rintro e w18 ⟨rfl, k18⟩; have T_18 := Lib.hid (T_17.out.keep k18); have CS_18 := Lib.hid (CS_17.out.keep k18); have S_18 := Lib.hid (S_17.out.keep k18); have CV_18 := Lib.hid (CV_17.out.keep k18); have V_18 := Lib.hid (V_17.out.keep k18); have A_18 := Lib.hid (A_17.out.keep k18); have B_18 := Lib.hid (B_17.out.keep k18); have D_18 := Lib.hid (D_17.out.keep k18); have E_18 := Lib.hid (E_17.out.keep k18); have F_18 := Lib.hid (F_17.out.keep k18); have G_18 := Lib.hid (G_17.out.keep k18); have KW_18 := Lib.hid (KW_17.out.trans k18); obtain ⟨cS_18_0, cS_18_1, cS_18_2, -, -, -, -⟩ := id S_18.out; obtain ⟨cV_18_0, cV_18_1, cV_18_2, -, -, -, -⟩ := id V_18.out; clear k18))
      | (go_at_call 8; ((with_reducible refine Calls.mono (Fr3.out _) ?_); rintro e w17 ⟨x6, rfl, hG, k17⟩; have T_17 := Lib.hid (T_16.out.keep k17); have CS_17 := Lib.hid (CS_16.out.keep k17); have S_17 := Lib.hid (S_16.out.keep k17); have CV_17 := Lib.hid (CV_16.out.keep k17); have V_17 := Lib.hid (V_16.out.keep k17); have A_17 := Lib.hid (A_16.out.keep k17); have B_17 := Lib.hid (B_16.out.keep k17); have D_17 := Lib.hid (D_16.out.keep k17); have E_17 := Lib.hid (E_16.out.keep k17); have F_17 := Lib.hid (F_16.out.keep k17); have G_17 := Lib.hid hG; clear hG; have KW_17 := Lib.hid (KW_16.out.trans k17); obtain ⟨cS_17_0, cS_17_1, cS_17_2, -, -, -, -⟩ := id S_17.out; obtain ⟨cV_17_0, cV_17_1, cV_17_2, -, -, -, -⟩ := id V_17.out; clear k17))
      | (go_at_call 7; ((with_reducible refine Calls.mono (qsame_t CS_15.out F_15.out) ?_); rintro e w16 ⟨rfl, k16⟩; have T_16 := Lib.hid (T_15.out.keep k16); have CS_16 := Lib.hid (CS_15.out.keep k16); have S_16 := Lib.hid (S_15.out.keep k16); have CV_16 := Lib.hid (CV_15.out.keep k16); have V_16 := Lib.hid (V_15.out.keep k16); have A_16 := Lib.hid (A_15.out.keep k16); have B_16 := Lib.hid (B_15.out.keep k16); have D_16 := Lib.hid (D_15.out.keep k16); have E_16 := Lib.hid (E_15.out.keep k16); have F_16 := Lib.hid (F_15.out.keep k16); have KW_16 := Lib.hid (KW_15.out.trans k16); obtain ⟨cS_16_0, cS_16_1, cS_16_2, -, -, -, -⟩ := id S_16.out; obtain ⟨cV_16_0, cV_16_1, cV_16_2, -, -, -, -⟩ := id V_16.out; clear k16))
      | (go_at_call 8; ((with_reducible refine Calls.mono (Fr1.out _) ?_); rintro e w15 ⟨x5, rfl, hF, k15⟩; have T_15 := Lib.hid (T_14.out.keep k15); have CS_15 := Lib.hid (CS_14.out.keep k15); have S_15 := Lib.hid (S_14.out.keep k15); have CV_15 := Lib.hid (CV_14.out.keep k15); have V_15 := Lib.hid (V_14.out.keep k15); have A_15 := Lib.hid (A_14.out.keep k15); have B_15 := Lib.hid (B_14.out.keep k15); have D_15 := Lib.hid (D_14.out.keep k15); have E_15 := Lib.hid (E_14.out.keep k15); have F_15 := Lib.hid hF; clear hF; have KW_15 := Lib.hid (KW_14.out.trans k15); obtain ⟨cS_15_0, cS_15_1, cS_15_2, -, -, -, -⟩ := id S_15.out; obtain ⟨cV_15_0, cV_15_1, cV_15_2, -, -, -, -⟩ := id V_15.out; clear k15))
      | (go_at_call 7; ((with_reducible refine Calls.mono (qsame_t D_13.out E_13.out) ?_); rintro e w14 ⟨rfl, k14⟩; have T_14 := Lib.hid (T_13.out.keep k14); have CS_14 := Lib.hid (CS_13.out.keep k14); have S_14 := Lib.hid (S_13.out.keep k14); have CV_14 := Lib.hid (CV_13.out.keep k14); have V_14 := Lib.hid (V_13.out.keep k14); have A_14 := Lib.hid (A_13.out.keep k14); have B_14 := Lib.hid (B_13.out.keep k14); have D_14 := Lib.hid (D_13.out.keep k14); have E_14 := Lib.hid (E_13.out.keep k14); have KW_14 := Lib.hid (KW_13.out.trans k14); obtain ⟨cS_14_0, cS_14_1, cS_14_2, -, -, -, -⟩ := id S_14.out; obtain ⟨cV_14_0, cV_14_1, cV_14_2, -, -, -, -⟩ := id V_14.out; clear k14))
      | (go_at_call 8; ((with_reducible refine Calls.mono (Fff.out _) ?_); rintro e w13 ⟨x4, rfl, hE, k13⟩; have T_13 := Lib.hid (T_12.out.keep k13); have CS_13 := Lib.hid (CS_12.out.keep k13); have S_13 := Lib.hid (S_12.out.keep k13); have CV_13 := Lib.hid (CV_12.out.keep k13); have V_13 := Lib.hid (V_12.out.keep k13); have A_13 := Lib.hid (A_12.out.keep k13); have B_13 := Lib.hid (B_12.out.keep k13); have D_13 := Lib.hid (D_12.out.keep k13); have E_13 := Lib.hid hE; clear hE; have KW_13 := Lib.hid (KW_12.out.trans k13); obtain ⟨cS_13_0, cS_13_1, cS_13_2, -, -, -, -⟩ := id S_13.out; obtain ⟨cV_13_0, cV_13_1, cV_13_2, -, -, -, -⟩ := id V_13.out; clear k13))
      | (go_at_call 9; ((with_reducible refine Calls.mono (AD.out _ _ _ A_11.out B_11.out T_11.out) ?_); rintro e w12 ⟨x3, rfl, hD, k12⟩; have T_12 := Lib.hid (T_11.out.keep k12); have CS_12 := Lib.hid (CS_11.out.keep k12); have S_12 := Lib.hid (S_11.out.keep k12); have CV_12 := Lib.hid (CV_11.out.keep k12); have V_12 := Lib.hid (V_11.out.keep k12); have A_12 := Lib.hid (A_11.out.keep k12); have B_12 := Lib.hid (B_11.out.keep k12); have D_12 := Lib.hid hD; clear hD; have KW_12 := Lib.hid (KW_11.out.trans k12); obtain ⟨cS_12_0, cS_12_1, cS_12_2, -, -, -, -⟩ := id S_12.out; obtain ⟨cV_12_0, cV_12_1, cV_12_2, -, -, -, -⟩ := id V_12.out; clear k12))
      | (go_at_call 8; ((with_reducible refine Calls.mono (Fr1.out _) ?_); rintro e w11 ⟨x2, rfl, hB, k11⟩; have T_11 := Lib.hid (T_10.out.keep k11); have CS_11 := Lib.hid (CS_10.out.keep k11); have S_11 := Lib.hid (S_10.out.keep k11); have CV_11 := Lib.hid (CV_10.out.keep k11); have V_11 := Lib.hid (V_10.out.keep k11); have A_11 := Lib.hid (A_10.out.keep k11); have B_11 := Lib.hid hB; clear hB; have KW_11 := Lib.hid (KW_10.out.trans k11); obtain ⟨cS_11_0, cS_11_1, cS_11_2, -, -, -, -⟩ := id S_11.out; obtain ⟨cV_11_0, cV_11_1, cV_11_2, -, -, -, -⟩ := id V_11.out; clear k11))
      | (go_at_call 8; ((with_reducible refine Calls.mono (Fhh.out _) ?_); rintro e w10 ⟨x1, rfl, hA, k10⟩; have T_10 := Lib.hid (T_9.out.keep k10); have CS_10 := Lib.hid (CS_9.out.keep k10); have S_10 := Lib.hid (S_9.out.keep k10); have CV_10 := Lib.hid (CV_9.out.keep k10); have V_10 := Lib.hid (V_9.out.keep k10); have A_10 := Lib.hid hA; clear hA; have KW_10 := Lib.hid (KW_9.out.trans k10); obtain ⟨cS_10_0, cS_10_1, cS_10_2, -, -, -, -⟩ := id S_10.out; obtain ⟨cV_10_0, cV_10_1, cV_10_2, -, -, -, -⟩ := id V_10.out; clear k10)))
  clear cS_25_0 cS_25_1 cS_25_2 cV_25_0 cV_25_1 cV_25_2 cS_24_0 cS_24_1 cS_24_2 cV_24_0 cV_24_1 cV_24_2 cS_23_0 cS_23_1 cS_23_2 cV_23_0 cV_23_1 cV_23_2 cS_22_0 cS_22_1 cS_22_2 cV_22_0 cV_22_1 cV_22_2 cS_21_0 cS_21_1 cS_21_2 cV_21_0 cV_21_1 cV_21_2 cS_20_0 cS_20_1 cS_20_2 cV_20_0 cV_20_1 cV_20_2 cS_19_0 cS_19_1 cS_19_2 cV_19_0 cV_19_1 cV_19_2 cS_18_0 cS_18_1 cS_18_2 cV_18_0 cV_18_1 cV_18_2 cS_17_0 cS_17_1 cS_17_2 cV_17_0 cV_17_1 cV_17_2 cS_16_0 cS_16_1 cS_16_2 cV_16_0 cV_16_1 cV_16_2 cS_15_0 cS_15_1 cS_15_2 cV_15_0 cV_15_1 cV_15_2 cS_14_0 cS_14_1 cS_14_2 cV_14_0 cV_14_1 cV_14_2 cS_13_0 cS_13_1 cS_13_2 cV_13_0 cV_13_1 cV_13_2 cS_12_0 cS_12_1 cS_12_2 cV_12_0 cV_12_1 cV_12_2 cS_11_0 cS_11_1 cS_11_2 cV_11_0 cV_11_1 cV_11_2 cS_10_0 cS_10_1 cS_10_2 cV_10_0 cV_10_1 cV_10_2 cS_9_0 cS_9_1 cS_9_2 cV_9_0 cV_9_1 cV_9_2
  all_goals
    go_wp2_with fail
    go_ret
    exact ⟨rfl, KW_25.out⟩
end Go.Proofs.YtjkfnnoakjdgmaaGreatDoor
