/- Walks of layer 6: awake. -/
import Derived.Test.YtbcakefhknjbeaaDoorJ8
import Derived.Test.YtbcakefhknjbeaaDoorJ9
namespace Go.Proofs.YtbcakefhknjbeaaDoor
open Go.RowKit
set_option linter.unusedVariables false
theorem rC_pos {p q : Rat} : 0 < rC p q ↔ q < p := by unfold rC; grind
theorem aw_by3 : Rb ((-3 : Int) : Rat) 1 := ⟨by decide +kernel, by decide +kernel⟩
theorem aw_by1 : Rb ((-1 : Int) : Rat) 1 := ⟨by decide +kernel, by decide +kernel⟩
theorem aw_bz0 : Rb ((0 : Int) : Rat) 1 := ⟨by decide +kernel, by decide +kernel⟩
theorem aw_bz1 : Rb ((1 : Int) : Rat) 1 := ⟨by decide +kernel, by decide +kernel⟩
theorem aw_bz2 : Rb ((2 : Int) : Rat) 1 := ⟨by decide +kernel, by decide +kernel⟩
theorem aw_bz3 : Rb ((3 : Int) : Rat) 1 := ⟨by decide +kernel, by decide +kernel⟩
theorem aw_m1 : ¬ 0 < rC (rmax ((0 : Int) : Rat) ((1 : Int) : Rat)) (rmin ((1 : Int) : Rat) ((2 : Int) : Rat)) := by decide +kernel
theorem aw_m2 : 0 < rC (rmax ((0 : Int) : Rat) ((2 : Int) : Rat)) (rmin ((1 : Int) : Rat) ((3 : Int) : Rat)) := by decide +kernel
theorem aw_e1 : rmax ((0 : Int) : Rat) ((1 : Int) : Rat) = ((1 : Int) : Rat) := by decide +kernel
theorem aw_e2 : rmin ((1 : Int) : Rat) ((2 : Int) : Rat) = ((1 : Int) : Rat) := by decide +kernel
theorem aw_e3 : m4 (((1 : Int) : Rat) * ((-3 : Int) : Rat)) (((1 : Int) : Rat) * ((1 : Int) : Rat)) (((2 : Int) : Rat) * ((-3 : Int) : Rat)) (((2 : Int) : Rat) * ((1 : Int) : Rat)) = ((-6 : Int) : Rat) := by decide +kernel
theorem aw_e4 : x4 (((1 : Int) : Rat) * ((-3 : Int) : Rat)) (((1 : Int) : Rat) * ((1 : Int) : Rat)) (((2 : Int) : Rat) * ((-3 : Int) : Rat)) (((2 : Int) : Rat) * ((1 : Int) : Rat)) = ((2 : Int) : Rat) := by decide +kernel
theorem aw_e5 : rmax 0 ((-1 : Int) : Rat) = ((0 : Int) : Rat) := by decide +kernel
theorem aw_e6 : rmax 0 ((2 : Int) : Rat) = ((2 : Int) : Rat) := by decide +kernel
theorem aw_e7 : decide (((0 : Int) : Rat) ≤ 0 ∧ 0 ≤ ((1 : Int) : Rat)) = true := by decide +kernel
theorem aw_e8 : decide (((1 : Int) : Rat) ≤ 0 ∧ 0 ≤ ((2 : Int) : Rat)) = false := by decide +kernel
set_option maxHeartbeats 4000000 in
theorem awake6_c (w : World) (hT : Tab w) : Calls Tryd.prog 16 #[] w (BPost true w) := by
  have T_0 := Lib.hid hT
  have KW_0 := Lib.hid (Keep.refl w)
  have Oz0z1 := Lib.hid (fun w1 => rivof_c (0) 1 w1 (by omega) (by omega) (by omega) (by omega))
  have Oz1z2 := Lib.hid (fun w1 => rivof_c (1) 2 w1 (by omega) (by omega) (by omega) (by omega))
  have Oz2z3 := Lib.hid (fun w1 => rivof_c (2) 3 w1 (by omega) (by omega) (by omega) (by omega))
  have Oz1z1 := Lib.hid (fun w1 => rivof_c (1) 1 w1 (by omega) (by omega) (by omega) (by omega))
  have Oy3z1 := Lib.hid (fun w1 => rivof_c (-3) 1 w1 (by omega) (by omega) (by omega) (by omega))
  have Oy6z2 := Lib.hid (fun w1 => rivof_c (-6) 2 w1 (by omega) (by omega) (by omega) (by omega))
  have Oy1z2 := Lib.hid (fun w1 => rivof_c (-1) 2 w1 (by omega) (by omega) (by omega) (by omega))
  have Oz0z2 := Lib.hid (fun w1 => rivof_c (0) 2 w1 (by omega) (by omega) (by omega) (by omega))
  have ME1 := Lib.hid (fun w1 u v (h : ICr w1 u ((0 : Int) : Rat) ((1 : Int) : Rat)) (h' : ICr w1 v ((1 : Int) : Rat) ((2 : Int) : Rat)) (hT1 : Tab w1) => imeet_0 (h.ra aw_bz0 aw_bz1) (h'.ra aw_bz1 aw_bz2) (by omega) (by omega) hT1 aw_m1)
  have ME2 := Lib.hid (fun w1 u v (h : ICr w1 u ((0 : Int) : Rat) ((1 : Int) : Rat)) (h' : ICr w1 v ((2 : Int) : Rat) ((3 : Int) : Rat)) (hT1 : Tab w1) => imeet_1 (h.ra aw_bz0 aw_bz1) (h'.ra aw_bz2 aw_bz3) (by omega) (by omega) hT1 aw_m2)
  have MU := Lib.hid (fun w1 u v (h : ICr w1 u ((1 : Int) : Rat) ((2 : Int) : Rat)) (h' : ICr w1 v ((-3 : Int) : Rat) ((1 : Int) : Rat)) (hT1 : Tab w1) => imul_c (h.ra aw_bz1 aw_bz2) (h'.ra aw_by3 aw_bz1) (by omega) (by omega) hT1)
  have RE := Lib.hid (fun w1 u (h : ICr w1 u ((-1 : Int) : Rat) ((2 : Int) : Rat)) (hT1 : Tab w1) => irelu (h.ra aw_by1 aw_bz2) (by omega) (by omega) hT1)
  have CO1 := Lib.hid (fun w1 u v (h : ICr w1 u ((0 : Int) : Rat) ((1 : Int) : Rat)) (h' : Cr w1 v 0) => icontains_c (h.ra aw_bz0 aw_bz1) (h'.ra aw_bz0) (by omega) (by omega))
  have CO2 := Lib.hid (fun w1 u v (h : ICr w1 u ((1 : Int) : Rat) ((2 : Int) : Rat)) (h' : Cr w1 v 0) => icontains_c (h.ra aw_bz1 aw_bz2) (h'.ra aw_bz0) (by omega) (by omega))
  rw [aw_e1, aw_e2] at ME1
  rw [aw_e3, aw_e4] at MU
  rw [aw_e5, aw_e6] at RE
  rw [aw_e7] at CO1
  rw [aw_e8] at CO2
  obtain ⟨y6, hy6⟩ : ∃ q : Rat, ((-6 : Int) : Rat) = q := ⟨_, rfl⟩
  rw [hy6] at Oy6z2 MU
  clear hy6
  obtain ⟨y3, hy3⟩ : ∃ q : Rat, ((-3 : Int) : Rat) = q := ⟨_, rfl⟩
  rw [hy3] at Oy3z1 MU
  clear hy3
  obtain ⟨y1, hy1⟩ : ∃ q : Rat, ((-1 : Int) : Rat) = q := ⟨_, rfl⟩
  rw [hy1] at Oy1z2 RE
  clear hy1
  obtain ⟨z0, hz0⟩ : ∃ q : Rat, ((0 : Int) : Rat) = q := ⟨_, rfl⟩
  rw [hz0] at Oz0z1 Oz0z2 ME1 ME2 RE CO1
  clear hz0
  obtain ⟨z1, hz1⟩ : ∃ q : Rat, ((1 : Int) : Rat) = q := ⟨_, rfl⟩
  rw [hz1] at Oz0z1 Oz1z2 Oz1z1 Oy3z1 ME1 ME2 MU CO1 CO2
  clear hz1
  obtain ⟨z2, hz2⟩ : ∃ q : Rat, ((2 : Int) : Rat) = q := ⟨_, rfl⟩
  rw [hz2] at Oz1z2 Oz2z3 Oy6z2 Oy1z2 Oz0z2 ME1 ME2 MU RE CO2
  clear hz2
  obtain ⟨z3, hz3⟩ : ∃ q : Rat, ((3 : Int) : Rat) = q := ⟨_, rfl⟩
  rw [hz3] at Oz2z3 ME2
  clear hz3
  clear hT
  go_enter Tryd.func16, Tryd.ntmps16
  go_wp2_with fail
  refine Calls.mono (Oz0z1.out _) ?_
  rintro e w1 ⟨u1, rfl, hA, k1⟩
  have T_1 := Lib.hid (T_0.out.keep k1)
  have A_1 := Lib.hid hA
  have KW_1 := Lib.hid (KW_0.out.trans k1)
  clear k1 T_0 hA KW_0
  go_wp2_with fail
  refine Calls.mono (Oz1z2.out _) ?_
  rintro e w2 ⟨u2, rfl, hB, k2⟩
  have T_2 := Lib.hid (T_1.out.keep k2)
  have A_2 := Lib.hid (A_1.out.keep k2)
  have B_2 := Lib.hid hB
  have KW_2 := Lib.hid (KW_1.out.trans k2)
  clear k2 T_1 A_1 hB KW_1
  go_wp2_with fail
  refine Calls.mono (ME1.out _ _ _ A_2.out B_2.out T_2.out) ?_
  rintro e w3 ⟨u3, rfl, hM, k3⟩
  have T_3 := Lib.hid (T_2.out.keep k3)
  have M0_3 := Lib.hid hM
  have KW_3 := Lib.hid (KW_2.out.trans k3)
  clear k3 A_2 B_2 T_2 hM KW_2
  obtain ⟨mlb, mla, mln, mlc, mlh, mlm, mlg, mub, mua, mun, muc, muh, mum, mug, rfl, hM2⟩ := ICr.fv M0_3.out
  have M_3 := Lib.hid hM2
  clear hM2 M0_3
  have T_4 := Lib.hid (T_3.out.keep (Keep.alloc (Keep.refl _) (.cells #[.bool mlb, .slice mla mln mlc, .slice mlh mlm mlg, .bool mub, .slice mua mun muc, .slice muh mum mug] 35)))
  have M_4 := Lib.hid (M_3.out.keep (Keep.alloc (Keep.refl _) (.cells #[.bool mlb, .slice mla mln mlc, .slice mlh mlm mlg, .bool mub, .slice mua mun muc, .slice muh mum mug] 35)))
  have KW_4 := Lib.hid (KW_3.out.trans (Keep.alloc (Keep.refl _) (.cells #[.bool mlb, .slice mla mln mlc, .slice mlh mlm mlg, .bool mub, .slice mua mun muc, .slice muh mum mug] 35)))
  have BM_4 := Lib.hid (show Bx w3.heap.size [.bool mlb, .slice mla mln mlc, .slice mlh mlm mlg, .bool mub, .slice mua mun muc, .slice muh mum mug] (w3.alloc (.cells #[.bool mlb, .slice mla mln mlc, .slice mlh mlm mlg, .bool mub, .slice mua mun muc, .slice muh mum mug] 35)) from Bx.new w3 35 (.b _ (.s _ _ _ (.s _ _ _ (.b _ (.s _ _ _ (.s _ _ _ .nil)))))))
  clear T_3 M_3 KW_3
  obtain ⟨BM_c0, BM_c1, BM_c2, BM_c3, BM_c4, BM_c5, -, -, -, -, -, -⟩ := BM_4.out.c6
  go_wp2_with fail
  refine Calls.mono (Oz0z1.out _) ?_
  rintro e w5 ⟨u4, rfl, hA, k5⟩
  clear BM_c0 BM_c1 BM_c2 BM_c3 BM_c4 BM_c5
  have T_5 := Lib.hid (T_4.out.keep k5)
  have M_5 := Lib.hid (M_4.out.keep k5)
  have BM_5 := Lib.hid (BM_4.out.keep k5)
  have A_5 := Lib.hid hA
  have KW_5 := Lib.hid (KW_4.out.trans k5)
  clear k5 T_4 M_4 BM_4 hA KW_4
  obtain ⟨BM_c0, BM_c1, BM_c2, BM_c3, BM_c4, BM_c5, -, -, -, -, -, -⟩ := BM_5.out.c6
  go_wp2_with fail
  refine Calls.mono (Oz2z3.out _) ?_
  rintro e w6 ⟨u5, rfl, hB, k6⟩
  clear BM_c0 BM_c1 BM_c2 BM_c3 BM_c4 BM_c5
  have T_6 := Lib.hid (T_5.out.keep k6)
  have M_6 := Lib.hid (M_5.out.keep k6)
  have BM_6 := Lib.hid (BM_5.out.keep k6)
  have A_6 := Lib.hid (A_5.out.keep k6)
  have B_6 := Lib.hid hB
  have KW_6 := Lib.hid (KW_5.out.trans k6)
  clear k6 T_5 M_5 BM_5 A_5 hB KW_5
  obtain ⟨BM_c0, BM_c1, BM_c2, BM_c3, BM_c4, BM_c5, -, -, -, -, -, -⟩ := BM_6.out.c6
  go_wp2_with fail
  refine Calls.mono (ME2.out _ _ _ A_6.out B_6.out T_6.out) ?_
  rintro e w7 ⟨u6, rfl, hN, k7⟩
  clear BM_c0 BM_c1 BM_c2 BM_c3 BM_c4 BM_c5
  have T_7 := Lib.hid (T_6.out.keep k7)
  have M_7 := Lib.hid (M_6.out.keep k7)
  have BM_7 := Lib.hid (BM_6.out.keep k7)
  have N0_7 := Lib.hid hN
  have KW_7 := Lib.hid (KW_6.out.trans k7)
  clear k7 A_6 B_6 T_6 M_6 BM_6 hN KW_6
  obtain ⟨nlb, nla, nln, nlc, nlh, nlm, nlg, nub, nua, nun, nuc, nuh, num, nug, rfl, hN2⟩ := ICr.fv N0_7.out
  clear hN2 N0_7
  have T_8 := Lib.hid (T_7.out.keep (Keep.alloc (Keep.refl _) (.cells #[.bool nlb, .slice nla nln nlc, .slice nlh nlm nlg, .bool nub, .slice nua nun nuc, .slice nuh num nug] 35)))
  have M_8 := Lib.hid (M_7.out.keep (Keep.alloc (Keep.refl _) (.cells #[.bool nlb, .slice nla nln nlc, .slice nlh nlm nlg, .bool nub, .slice nua nun nuc, .slice nuh num nug] 35)))
  have BM_8 := Lib.hid (BM_7.out.keep (Keep.alloc (Keep.refl _) (.cells #[.bool nlb, .slice nla nln nlc, .slice nlh nlm nlg, .bool nub, .slice nua nun nuc, .slice nuh num nug] 35)))
  have KW_8 := Lib.hid (KW_7.out.trans (Keep.alloc (Keep.refl _) (.cells #[.bool nlb, .slice nla nln nlc, .slice nlh nlm nlg, .bool nub, .slice nua nun nuc, .slice nuh num nug] 35)))
  have BN_8 := Lib.hid (show Bx w7.heap.size [.bool nlb, .slice nla nln nlc, .slice nlh nlm nlg, .bool nub, .slice nua nun nuc, .slice nuh num nug] (w7.alloc (.cells #[.bool nlb, .slice nla nln nlc, .slice nlh nlm nlg, .bool nub, .slice nua nun nuc, .slice nuh num nug] 35)) from Bx.new w7 35 (.b _ (.s _ _ _ (.s _ _ _ (.b _ (.s _ _ _ (.s _ _ _ .nil)))))))
  clear T_7 M_7 BM_7 KW_7
  clear BN_8
  clear ME1 ME2
  have T_9 := Lib.hid (T_8.out.keep (keep_drew _))
  clear T_8
  have M_9 := Lib.hid (M_8.out.keep (keep_drew _))
  clear M_8
  have BM_9 := Lib.hid (BM_8.out.keep (keep_drew _))
  clear BM_8
  have KW_9 := Lib.hid (KW_8.out.trans (keep_drew _))
  clear KW_8
  obtain ⟨cBM_9_0, cBM_9_1, cBM_9_2, cBM_9_3, cBM_9_4, cBM_9_5, -, -, -, -, -, -⟩ := BM_9.out.c6
  go_wp2
  go_region_held3 (fun w' => w'.cell? ⟨w3.heap.size, 0, none⟩ = some (.bool mlb) ∧ w'.cell? ⟨w3.heap.size, 1, none⟩ = some (.slice mla mln mlc) ∧ w'.cell? ⟨w3.heap.size, 2, none⟩ = some (.slice mlh mlm mlg) ∧ w'.cell? ⟨w3.heap.size, 3, none⟩ = some (.bool mub) ∧ w'.cell? ⟨w3.heap.size, 4, none⟩ = some (.slice mua mun muc) ∧ w'.cell? ⟨w3.heap.size, 5, none⟩ = some (.slice muh mum mug)) (first | with_reducible exact ⟨cBM_24_0, cBM_24_1, cBM_24_2, cBM_24_3, cBM_24_4, cBM_24_5⟩ | with_reducible exact ⟨cBM_23_0, cBM_23_1, cBM_23_2, cBM_23_3, cBM_23_4, cBM_23_5⟩ | with_reducible exact ⟨cBM_22_0, cBM_22_1, cBM_22_2, cBM_22_3, cBM_22_4, cBM_22_5⟩ | with_reducible exact ⟨cBM_21_0, cBM_21_1, cBM_21_2, cBM_21_3, cBM_21_4, cBM_21_5⟩ | with_reducible exact ⟨cBM_20_0, cBM_20_1, cBM_20_2, cBM_20_3, cBM_20_4, cBM_20_5⟩ | with_reducible exact ⟨cBM_19_0, cBM_19_1, cBM_19_2, cBM_19_3, cBM_19_4, cBM_19_5⟩ | with_reducible exact ⟨cBM_18_0, cBM_18_1, cBM_18_2, cBM_18_3, cBM_18_4, cBM_18_5⟩ | with_reducible exact ⟨cBM_17_0, cBM_17_1, cBM_17_2, cBM_17_3, cBM_17_4, cBM_17_5⟩ | with_reducible exact ⟨cBM_16_0, cBM_16_1, cBM_16_2, cBM_16_3, cBM_16_4, cBM_16_5⟩ | with_reducible exact ⟨cBM_15_0, cBM_15_1, cBM_15_2, cBM_15_3, cBM_15_4, cBM_15_5⟩ | with_reducible exact ⟨cBM_14_0, cBM_14_1, cBM_14_2, cBM_14_3, cBM_14_4, cBM_14_5⟩ | with_reducible exact ⟨cBM_13_0, cBM_13_1, cBM_13_2, cBM_13_3, cBM_13_4, cBM_13_5⟩ | with_reducible exact ⟨cBM_12_0, cBM_12_1, cBM_12_2, cBM_12_3, cBM_12_4, cBM_12_5⟩ | with_reducible exact ⟨cBM_11_0, cBM_11_1, cBM_11_2, cBM_11_3, cBM_11_4, cBM_11_5⟩ | with_reducible exact ⟨cBM_10_0, cBM_10_1, cBM_10_2, cBM_10_3, cBM_10_4, cBM_10_5⟩ | with_reducible exact ⟨cBM_9_0, cBM_9_1, cBM_9_2, cBM_9_3, cBM_9_4, cBM_9_5⟩ | go_keep)
    (first
      | (go_at_call 23; ((with_reducible refine Calls.mono (CO2.out _ _ _ R_23.out (Cr.zero _)) ?_); rintro e w24 ⟨rfl, k24⟩; have T_24 := Lib.hid (T_23.out.keep k24); have M_24 := Lib.hid (M_23.out.keep k24); have BM_24 := Lib.hid (BM_23.out.keep k24); have D_24 := Lib.hid (D_23.out.keep k24); have E_24 := Lib.hid (E_23.out.keep k24); have F_24 := Lib.hid (F_23.out.keep k24); have G_24 := Lib.hid (G_23.out.keep k24); have H_24 := Lib.hid (H_23.out.keep k24); have I_24 := Lib.hid (I_23.out.keep k24); have J_24 := Lib.hid (J_23.out.keep k24); have L_24 := Lib.hid (L_23.out.keep k24); have P_24 := Lib.hid (P_23.out.keep k24); have R_24 := Lib.hid (R_23.out.keep k24); have KW_24 := Lib.hid (KW_23.out.trans k24); obtain ⟨cBM_24_0, cBM_24_1, cBM_24_2, cBM_24_3, cBM_24_4, cBM_24_5, -, -, -, -, -, -⟩ := BM_24.out.c6; clear k24))
      | (go_at_call 53; ((with_reducible refine Calls.mono (Oz1z2.out _) ?_); rintro e w23 ⟨aR, rfl, hR, k23⟩; have T_23 := Lib.hid (T_22.out.keep k23); have M_23 := Lib.hid (M_22.out.keep k23); have BM_23 := Lib.hid (BM_22.out.keep k23); have D_23 := Lib.hid (D_22.out.keep k23); have E_23 := Lib.hid (E_22.out.keep k23); have F_23 := Lib.hid (F_22.out.keep k23); have G_23 := Lib.hid (G_22.out.keep k23); have H_23 := Lib.hid (H_22.out.keep k23); have I_23 := Lib.hid (I_22.out.keep k23); have J_23 := Lib.hid (J_22.out.keep k23); have L_23 := Lib.hid (L_22.out.keep k23); have P_23 := Lib.hid (P_22.out.keep k23); have R_23 := Lib.hid hR; clear hR; have KW_23 := Lib.hid (KW_22.out.trans k23); obtain ⟨cBM_23_0, cBM_23_1, cBM_23_2, cBM_23_3, cBM_23_4, cBM_23_5, -, -, -, -, -, -⟩ := BM_23.out.c6; clear k23))
      | (go_at_call 23; ((with_reducible refine Calls.mono (CO1.out _ _ _ P_21.out (Cr.zero _)) ?_); rintro e w22 ⟨rfl, k22⟩; have T_22 := Lib.hid (T_21.out.keep k22); have M_22 := Lib.hid (M_21.out.keep k22); have BM_22 := Lib.hid (BM_21.out.keep k22); have D_22 := Lib.hid (D_21.out.keep k22); have E_22 := Lib.hid (E_21.out.keep k22); have F_22 := Lib.hid (F_21.out.keep k22); have G_22 := Lib.hid (G_21.out.keep k22); have H_22 := Lib.hid (H_21.out.keep k22); have I_22 := Lib.hid (I_21.out.keep k22); have J_22 := Lib.hid (J_21.out.keep k22); have L_22 := Lib.hid (L_21.out.keep k22); have P_22 := Lib.hid (P_21.out.keep k22); have KW_22 := Lib.hid (KW_21.out.trans k22); obtain ⟨cBM_22_0, cBM_22_1, cBM_22_2, cBM_22_3, cBM_22_4, cBM_22_5, -, -, -, -, -, -⟩ := BM_22.out.c6; clear k22))
      | (go_at_call 53; ((with_reducible refine Calls.mono (Oz0z1.out _) ?_); rintro e w21 ⟨aP, rfl, hP, k21⟩; have T_21 := Lib.hid (T_20.out.keep k21); have M_21 := Lib.hid (M_20.out.keep k21); have BM_21 := Lib.hid (BM_20.out.keep k21); have D_21 := Lib.hid (D_20.out.keep k21); have E_21 := Lib.hid (E_20.out.keep k21); have F_21 := Lib.hid (F_20.out.keep k21); have G_21 := Lib.hid (G_20.out.keep k21); have H_21 := Lib.hid (H_20.out.keep k21); have I_21 := Lib.hid (I_20.out.keep k21); have J_21 := Lib.hid (J_20.out.keep k21); have L_21 := Lib.hid (L_20.out.keep k21); have P_21 := Lib.hid hP; clear hP; have KW_21 := Lib.hid (KW_20.out.trans k21); obtain ⟨cBM_21_0, cBM_21_1, cBM_21_2, cBM_21_3, cBM_21_4, cBM_21_5, -, -, -, -, -, -⟩ := BM_21.out.c6; clear k21))
      | (go_at_call 20; ((with_reducible refine Calls.mono (isame_t J_19.out L_19.out) ?_); rintro e w20 ⟨rfl, k20⟩; have T_20 := Lib.hid (T_19.out.keep k20); have M_20 := Lib.hid (M_19.out.keep k20); have BM_20 := Lib.hid (BM_19.out.keep k20); have D_20 := Lib.hid (D_19.out.keep k20); have E_20 := Lib.hid (E_19.out.keep k20); have F_20 := Lib.hid (F_19.out.keep k20); have G_20 := Lib.hid (G_19.out.keep k20); have H_20 := Lib.hid (H_19.out.keep k20); have I_20 := Lib.hid (I_19.out.keep k20); have J_20 := Lib.hid (J_19.out.keep k20); have L_20 := Lib.hid (L_19.out.keep k20); have KW_20 := Lib.hid (KW_19.out.trans k20); obtain ⟨cBM_20_0, cBM_20_1, cBM_20_2, cBM_20_3, cBM_20_4, cBM_20_5, -, -, -, -, -, -⟩ := BM_20.out.c6; clear k20))
      | (go_at_call 53; ((with_reducible refine Calls.mono (Oz0z2.out _) ?_); rintro e w19 ⟨aL, rfl, hL, k19⟩; have T_19 := Lib.hid (T_18.out.keep k19); have M_19 := Lib.hid (M_18.out.keep k19); have BM_19 := Lib.hid (BM_18.out.keep k19); have D_19 := Lib.hid (D_18.out.keep k19); have E_19 := Lib.hid (E_18.out.keep k19); have F_19 := Lib.hid (F_18.out.keep k19); have G_19 := Lib.hid (G_18.out.keep k19); have H_19 := Lib.hid (H_18.out.keep k19); have I_19 := Lib.hid (I_18.out.keep k19); have J_19 := Lib.hid (J_18.out.keep k19); have L_19 := Lib.hid hL; clear hL; have KW_19 := Lib.hid (KW_18.out.trans k19); obtain ⟨cBM_19_0, cBM_19_1, cBM_19_2, cBM_19_3, cBM_19_4, cBM_19_5, -, -, -, -, -, -⟩ := BM_19.out.c6; clear k19))
      | (go_at_call 27; ((with_reducible refine Calls.mono (RE.out _ _ I_17.out T_17.out) ?_); rintro e w18 ⟨a9, rfl, hJ, k18⟩; have T_18 := Lib.hid (T_17.out.keep k18); have M_18 := Lib.hid (M_17.out.keep k18); have BM_18 := Lib.hid (BM_17.out.keep k18); have D_18 := Lib.hid (D_17.out.keep k18); have E_18 := Lib.hid (E_17.out.keep k18); have F_18 := Lib.hid (F_17.out.keep k18); have G_18 := Lib.hid (G_17.out.keep k18); have H_18 := Lib.hid (H_17.out.keep k18); have I_18 := Lib.hid (I_17.out.keep k18); have J_18 := Lib.hid hJ; clear hJ; have KW_18 := Lib.hid (KW_17.out.trans k18); obtain ⟨cBM_18_0, cBM_18_1, cBM_18_2, cBM_18_3, cBM_18_4, cBM_18_5, -, -, -, -, -, -⟩ := BM_18.out.c6; clear k18))
      | (go_at_call 53; ((with_reducible refine Calls.mono (Oy1z2.out _) ?_); rintro e w17 ⟨aI, rfl, hI, k17⟩; have T_17 := Lib.hid (T_16.out.keep k17); have M_17 := Lib.hid (M_16.out.keep k17); have BM_17 := Lib.hid (BM_16.out.keep k17); have D_17 := Lib.hid (D_16.out.keep k17); have E_17 := Lib.hid (E_16.out.keep k17); have F_17 := Lib.hid (F_16.out.keep k17); have G_17 := Lib.hid (G_16.out.keep k17); have H_17 := Lib.hid (H_16.out.keep k17); have I_17 := Lib.hid hI; clear hI; have KW_17 := Lib.hid (KW_16.out.trans k17); obtain ⟨cBM_17_0, cBM_17_1, cBM_17_2, cBM_17_3, cBM_17_4, cBM_17_5, -, -, -, -, -, -⟩ := BM_17.out.c6; clear k17))
      | (go_at_call 20; ((with_reducible refine Calls.mono (isame_t G_15.out H_15.out) ?_); rintro e w16 ⟨rfl, k16⟩; have T_16 := Lib.hid (T_15.out.keep k16); have M_16 := Lib.hid (M_15.out.keep k16); have BM_16 := Lib.hid (BM_15.out.keep k16); have D_16 := Lib.hid (D_15.out.keep k16); have E_16 := Lib.hid (E_15.out.keep k16); have F_16 := Lib.hid (F_15.out.keep k16); have G_16 := Lib.hid (G_15.out.keep k16); have H_16 := Lib.hid (H_15.out.keep k16); have KW_16 := Lib.hid (KW_15.out.trans k16); obtain ⟨cBM_16_0, cBM_16_1, cBM_16_2, cBM_16_3, cBM_16_4, cBM_16_5, -, -, -, -, -, -⟩ := BM_16.out.c6; clear k16))
      | (go_at_call 53; ((with_reducible refine Calls.mono (Oy6z2.out _) ?_); rintro e w15 ⟨aH, rfl, hH, k15⟩; have T_15 := Lib.hid (T_14.out.keep k15); have M_15 := Lib.hid (M_14.out.keep k15); have BM_15 := Lib.hid (BM_14.out.keep k15); have D_15 := Lib.hid (D_14.out.keep k15); have E_15 := Lib.hid (E_14.out.keep k15); have F_15 := Lib.hid (F_14.out.keep k15); have G_15 := Lib.hid (G_14.out.keep k15); have H_15 := Lib.hid hH; clear hH; have KW_15 := Lib.hid (KW_14.out.trans k15); obtain ⟨cBM_15_0, cBM_15_1, cBM_15_2, cBM_15_3, cBM_15_4, cBM_15_5, -, -, -, -, -, -⟩ := BM_15.out.c6; clear k15))
      | (go_at_call 26; ((with_reducible refine Calls.mono (MU.out _ _ _ E_13.out F_13.out T_13.out) ?_); rintro e w14 ⟨a7, rfl, hG, k14⟩; have T_14 := Lib.hid (T_13.out.keep k14); have M_14 := Lib.hid (M_13.out.keep k14); have BM_14 := Lib.hid (BM_13.out.keep k14); have D_14 := Lib.hid (D_13.out.keep k14); have E_14 := Lib.hid (E_13.out.keep k14); have F_14 := Lib.hid (F_13.out.keep k14); have G_14 := Lib.hid hG; clear hG; have KW_14 := Lib.hid (KW_13.out.trans k14); obtain ⟨cBM_14_0, cBM_14_1, cBM_14_2, cBM_14_3, cBM_14_4, cBM_14_5, -, -, -, -, -, -⟩ := BM_14.out.c6; clear k14))
      | (go_at_call 53; ((with_reducible refine Calls.mono (Oy3z1.out _) ?_); rintro e w13 ⟨aF, rfl, hF, k13⟩; have T_13 := Lib.hid (T_12.out.keep k13); have M_13 := Lib.hid (M_12.out.keep k13); have BM_13 := Lib.hid (BM_12.out.keep k13); have D_13 := Lib.hid (D_12.out.keep k13); have E_13 := Lib.hid (E_12.out.keep k13); have F_13 := Lib.hid hF; clear hF; have KW_13 := Lib.hid (KW_12.out.trans k13); obtain ⟨cBM_13_0, cBM_13_1, cBM_13_2, cBM_13_3, cBM_13_4, cBM_13_5, -, -, -, -, -, -⟩ := BM_13.out.c6; clear k13))
      | (go_at_call 53; ((with_reducible refine Calls.mono (Oz1z2.out _) ?_); rintro e w12 ⟨aE, rfl, hE, k12⟩; have T_12 := Lib.hid (T_11.out.keep k12); have M_12 := Lib.hid (M_11.out.keep k12); have BM_12 := Lib.hid (BM_11.out.keep k12); have D_12 := Lib.hid (D_11.out.keep k12); have E_12 := Lib.hid hE; clear hE; have KW_12 := Lib.hid (KW_11.out.trans k12); obtain ⟨cBM_12_0, cBM_12_1, cBM_12_2, cBM_12_3, cBM_12_4, cBM_12_5, -, -, -, -, -, -⟩ := BM_12.out.c6; clear k12))
      | (go_at_call 20; ((with_reducible refine Calls.mono (isame_t M_10.out D_10.out) ?_); rintro e w11 ⟨rfl, k11⟩; have T_11 := Lib.hid (T_10.out.keep k11); have M_11 := Lib.hid (M_10.out.keep k11); have BM_11 := Lib.hid (BM_10.out.keep k11); have D_11 := Lib.hid (D_10.out.keep k11); have KW_11 := Lib.hid (KW_10.out.trans k11); obtain ⟨cBM_11_0, cBM_11_1, cBM_11_2, cBM_11_3, cBM_11_4, cBM_11_5, -, -, -, -, -, -⟩ := BM_11.out.c6; clear k11))
      | (go_at_call 53; ((with_reducible refine Calls.mono (Oz1z1.out _) ?_); rintro e w10 ⟨aD, rfl, hD, k10⟩; have T_10 := Lib.hid (T_9.out.keep k10); have M_10 := Lib.hid (M_9.out.keep k10); have BM_10 := Lib.hid (BM_9.out.keep k10); have D_10 := Lib.hid hD; clear hD; have KW_10 := Lib.hid (KW_9.out.trans k10); obtain ⟨cBM_10_0, cBM_10_1, cBM_10_2, cBM_10_3, cBM_10_4, cBM_10_5, -, -, -, -, -, -⟩ := BM_10.out.c6; clear k10)))
  clear cBM_24_0 cBM_24_1 cBM_24_2 cBM_24_3 cBM_24_4 cBM_24_5 cBM_23_0 cBM_23_1 cBM_23_2 cBM_23_3 cBM_23_4 cBM_23_5 cBM_22_0 cBM_22_1 cBM_22_2 cBM_22_3 cBM_22_4 cBM_22_5 cBM_21_0 cBM_21_1 cBM_21_2 cBM_21_3 cBM_21_4 cBM_21_5 cBM_20_0 cBM_20_1 cBM_20_2 cBM_20_3 cBM_20_4 cBM_20_5 cBM_19_0 cBM_19_1 cBM_19_2 cBM_19_3 cBM_19_4 cBM_19_5 cBM_18_0 cBM_18_1 cBM_18_2 cBM_18_3 cBM_18_4 cBM_18_5 cBM_17_0 cBM_17_1 cBM_17_2 cBM_17_3 cBM_17_4 cBM_17_5 cBM_16_0 cBM_16_1 cBM_16_2 cBM_16_3 cBM_16_4 cBM_16_5 cBM_15_0 cBM_15_1 cBM_15_2 cBM_15_3 cBM_15_4 cBM_15_5 cBM_14_0 cBM_14_1 cBM_14_2 cBM_14_3 cBM_14_4 cBM_14_5 cBM_13_0 cBM_13_1 cBM_13_2 cBM_13_3 cBM_13_4 cBM_13_5 cBM_12_0 cBM_12_1 cBM_12_2 cBM_12_3 cBM_12_4 cBM_12_5 cBM_11_0 cBM_11_1 cBM_11_2 cBM_11_3 cBM_11_4 cBM_11_5 cBM_10_0 cBM_10_1 cBM_10_2 cBM_10_3 cBM_10_4 cBM_10_5 cBM_9_0 cBM_9_1 cBM_9_2 cBM_9_3 cBM_9_4 cBM_9_5
  all_goals
    go_wp2_with fail
    go_ret
    exact ⟨rfl, KW_24.out⟩
end Go.Proofs.YtbcakefhknjbeaaDoor
