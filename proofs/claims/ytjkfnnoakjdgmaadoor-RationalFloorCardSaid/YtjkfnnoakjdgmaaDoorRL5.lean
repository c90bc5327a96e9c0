/- Walks of layer 3: the law of floor. -/
import Derived.Test.YtjkfnnoakjdgmaaDoorRL1
namespace Go.Proofs.YtjkfnnoakjdgmaaDoor
open Go.RowKit
set_option linter.unusedVariables false
theorem floor_abs {p : Rat} {k : Nat} (h : Rb p k) : p.floor.natAbs < BB ^ k := by
  have e : p.floor = p.num / (p.den : Int) := by
    have h1 := floor_rv (decide (p.num < 0)) p.num.natAbs (wd p)
    rw [rv_wd, iv_abs2, dn_wd] at h1
    exact h1
  rw [e]
  exact Nat.lt_of_le_of_lt (Int.natAbs_ediv_le_natAbs _ _) h.1
theorem floor_low (p : Rat) : rC (p.floor : Rat) p ≤ 0 := by
  have h : (p.floor : Rat) ≤ p := Rat.floor_le p
  rcases rC_facts (p.floor : Rat) p with e | e | e
  · rw [e.1]; decide
  · rw [e.1]; decide
  · exact absurd h (Rat.not_le.2 e.2)
theorem floor_high (p : Rat) : 0 < rC ((p.floor : Rat) + ((1 : Int) : Rat)) p := by
  have h : p < (p.floor : Rat) + 1 := by
    have h1 := Rat.lt_floor_add_one p
    rw [Rat.intCast_add] at h1
    exact h1
  rw [show ((p.floor : Rat) + ((1 : Int) : Rat)) = (p.floor : Rat) + 1 from rfl, rC_gt h]
  decide
theorem canI_z (z : Int) : canI (decide (z < 0)) (dig z.natAbs) = true := by
  unfold canI
  rw [canB_dig]
  by_cases h : z < 0
  · have : (dig z.natAbs).length ≠ 0 := by rw [Ne, dig_len_pos]; omega
    simp [this]
  · simp [h]
theorem rivalid_z {w : World} {v : Value} {z : Int} (h : Ci w v z) : Calls Tryd.prog 46 #[v] w (BPost true w) := by
  obtain ⟨a, n, c, rfl, _, hr⟩ := h.form'
  have H := rivalid_c (s := decide (z < 0)) hr
  rw [canI_z] at H
  exact H
set_option maxHeartbeats 4000000 in
theorem floor_law_b0 {w : World} {s : Bool} {a a' : Option Addr} {n c n' c' : Nat} {lx lx' : List Nat} (hx : Rd w a n c lx) (hx' : Rd w a' n' c' lx') (hT : Tab w)  (fx : ¬ (n ≤ 3 ∧ n' ≤ 3)) : Calls Tryd.prog 8 #[.agg #[.bool s, .slice a n c, .slice a' n' c']] w (BPost true w) := by
  obtain ⟨B_0, KW_0⟩ := ops1 w s a n c a' n' c'
  have T_0 := Lib.hid (hT.keep KW_0.out)
  have AW := Lib.hid (fun w1 (hT1 : Tab w1) => awake_c w1 hT1)
  have FX := Lib.hid (fun w1 (h : Rd w1 a n c lx) (h' : Rd w1 a' n' c' lx') => few_c (s := s) h h')
  rw [decide_eq_false fx] at FX
  have X_0 := Lib.hid (hx.below KW_0.out)
  have X'_0 := Lib.hid (hx'.below KW_0.out)
  clear hT hx hx'
  go_enter Tryd.func8, Tryd.ntmps8
  obtain ⟨B_c0, B_c1, B_c2, -, -, -, -⟩ := id B_0.out
  go_wp2_with fail
  refine Calls.mono (AW.out _ T_0.out) ?_
  rintro e w1 ⟨rfl, k1⟩
  clear B_c0 B_c1 B_c2
  have T_1 := Lib.hid (T_0.out.keep k1)
  have X_1 := Lib.hid (X_0.out.keep k1)
  have X'_1 := Lib.hid (X'_0.out.keep k1)
  have B_1 := Lib.hid (B_0.out.keep k1)
  have KW_1 := Lib.hid (KW_0.out.trans k1)
  clear k1 T_0 X_0 X'_0 B_0 KW_0
  obtain ⟨B_c0, B_c1, B_c2, -, -, -, -⟩ := id B_1.out
  go_wp2_with fail
  refine Calls.mono (FX.out _ X_1.out X'_1.out) ?_
  rintro e w2 ⟨rfl, k2⟩
  clear B_c0 B_c1 B_c2
  have T_2 := Lib.hid (T_1.out.keep k2)
  have X_2 := Lib.hid (X_1.out.keep k2)
  have X'_2 := Lib.hid (X'_1.out.keep k2)
  have B_2 := Lib.hid (B_1.out.keep k2)
  have KW_2 := Lib.hid (KW_1.out.trans k2)
  clear k2 T_1 X_1 X'_1 B_1 KW_1
  obtain ⟨B_c0, B_c1, B_c2, -, -, -, -⟩ := id B_2.out
  go_wp2_with fail
  go_ret
  exact ⟨rfl, KW_2.out⟩
set_option maxHeartbeats 4000000 in
theorem floor_law_s {w : World} {s : Bool} {a a' : Option Addr} {n c n' c' : Nat} {lx lx' : List Nat} (hx : Rd w a n c lx) (hx' : Rd w a' n' c' lx') (hT : Tab w) (fx : (n ≤ 3 ∧ n' ≤ 3)) : Calls Tryd.prog 8 #[.agg #[.bool s, .slice a n c, .slice a' n' c']] w (BPost true w) := by
  obtain ⟨B_0, KW_0⟩ := ops1 w s a n c a' n' c'
  have T_0 := Lib.hid (hT.keep KW_0.out)
  have AW := Lib.hid (fun w1 (hT1 : Tab w1) => awake_c w1 hT1)
  have FX := Lib.hid (fun w1 (h : Rd w1 a n c lx) (h' : Rd w1 a' n' c' lx') => few_c (s := s) h h')
  rw [decide_eq_true fx] at FX
  have X_0 := Lib.hid (hx.below KW_0.out)
  have X'_0 := Lib.hid (hx'.below KW_0.out)
  have lX : lx.length ≤ 3 := by rw [hx.len_eq]; exact fx.1
  have lX' : lx'.length ≤ 3 := by rw [hx'.len_eq]; exact fx.2
  have nX : Ra w (.agg #[.bool s, .slice a n c, .slice a' n' c']) (rv s (nv lx) (nv lx')) 3 := ⟨_, _, _, _, _, rfl, hx.toNm rfl lX, hx'.toNm rfl lX', rfl⟩
  obtain ⟨p, hXq⟩ : ∃ q, rv s (nv lx) (nv lx') = q := ⟨_, rfl⟩
  rw [hXq] at nX
  have NX_0 := Lib.hid (nX.keep KW_0.out)
  have rbp := nX.rb (by omega)
  have FL := Lib.hid (fun w1 (h : Ra w1 (.agg #[.bool s, .slice a n c, .slice a' n' c']) p 3) => qfloor_c h (by omega) (by omega))
  have hfa := floor_abs rbp
  have h1 := floor_low p
  have h2 := floor_high p
  obtain ⟨F, hF⟩ : ∃ F, p.floor = F := ⟨_, rfl⟩
  rw [hF] at FL hfa h1 h2
  have WH := Lib.hid (fun w1 v (hv : Ci w1 v F) => rwhole_z hv hfa (by omega) (by omega))
  have ONE := Lib.hid (fun w1 => rqof_c 1 w1 (by omega) (by omega))
  have rb1 : Rb (F : Rat) 3 := rb_int hfa (by omega)
  have rb2 : Rb ((1 : Int) : Rat) 3 := rb_int (by decide) (by omega)
  have rb3 : Rb ((F : Rat) + ((1 : Int) : Rat)) 7 := (rb1.add rb2).up (by omega)
  have AD := Lib.hid (fun w1 u v (hu : Cr w1 u (F : Rat)) (hv : Cr w1 v ((1 : Int) : Rat)) => rqadd_c (hu.ra rb1) (hv.ra rb2) (by omega) (by omega))
  have C1 := Lib.hid (fun w1 u (hu : Cr w1 u (F : Rat)) (h : Ra w1 (.agg #[.bool s, .slice a n c, .slice a' n' c']) p 3) => rqcmp_c (hu.ra rb1) h (by omega) (by omega))
  have C2 := Lib.hid (fun w1 u (hu : Cr w1 u ((F : Rat) + ((1 : Int) : Rat))) (h : Ra w1 (.agg #[.bool s, .slice a n c, .slice a' n' c']) p 3) => rqcmp_c (hu.ra rb3) (h.up (k := 3) (j := 7) (by omega)) (by omega) (by omega))
  obtain ⟨z, hz⟩ : ∃ z, rC (F : Rat) p = z := ⟨_, rfl⟩
  rw [hz] at C1 h1
  obtain ⟨y, hy⟩ : ∃ z, rC ((F : Rat) + ((1 : Int) : Rat)) p = z := ⟨_, rfl⟩
  rw [hy] at C2 h2
  have d1 : decide (z ≤ 0) = true := decide_eq_true h1
  have d2 : decide (0 < y) = true := decide_eq_true h2
  clear hT hx hx' fx lX lX' nX hXq rbp hz hy h1 h2 hF hfa rb1 rb2 rb3
  go_enter Tryd.func8, Tryd.ntmps8
  obtain ⟨B_c0, B_c1, B_c2, -, -, -, -⟩ := id B_0.out
  go_wp2_with fail
  refine Calls.mono (AW.out _ T_0.out) ?_
  rintro e w1 ⟨rfl, k1⟩
  clear B_c0 B_c1 B_c2
  have T_1 := Lib.hid (T_0.out.keep k1)
  have X_1 := Lib.hid (X_0.out.keep k1)
  have X'_1 := Lib.hid (X'_0.out.keep k1)
  have NX_1 := Lib.hid (NX_0.out.keep k1)
  have B_1 := Lib.hid (B_0.out.keep k1)
  have KW_1 := Lib.hid (KW_0.out.trans k1)
  clear k1 T_0 X_0 X'_0 NX_0 B_0 KW_0
  obtain ⟨B_c0, B_c1, B_c2, -, -, -, -⟩ := id B_1.out
  go_wp2_with fail
  refine Calls.mono (FX.out _ X_1.out X'_1.out) ?_
  rintro e w2 ⟨rfl, k2⟩
  clear B_c0 B_c1 B_c2
  have T_2 := Lib.hid (T_1.out.keep k2)
  have X_2 := Lib.hid (X_1.out.keep k2)
  have X'_2 := Lib.hid (X'_1.out.keep k2)
  have NX_2 := Lib.hid (NX_1.out.keep k2)
  have B_2 := Lib.hid (B_1.out.keep k2)
  have KW_2 := Lib.hid (KW_1.out.trans k2)
  clear k2 T_1 X_1 X'_1 NX_1 B_1 KW_1
  clear AW FX
  clear X_2 X'_2
  obtain ⟨B_c0, B_c1, B_c2, -, -, -, -⟩ := id B_2.out
  go_wp2_with fail
  refine Calls.mono (FL.out _ NX_2.out) ?_
  rintro e w3 ⟨vF, rfl, hI, k3⟩
  clear B_c0 B_c1 B_c2
  have T_3 := Lib.hid (T_2.out.keep k3)
  have NX_3 := Lib.hid (NX_2.out.keep k3)
  have B_3 := Lib.hid (B_2.out.keep k3)
  have I_3 := Lib.hid hI
  have KW_3 := Lib.hid (KW_2.out.trans k3)
  clear k3 T_2 NX_2 B_2 hI KW_2
  obtain ⟨fa, fn, fc, rfl, -, -⟩ := I_3.out.form'
  have I_3_x := I_3.out
  obtain ⟨fb, hfb⟩ : ∃ b, decide (F < 0) = b := ⟨_, rfl⟩
  rw [hfb] at I_3_x ⊢
  have I_3_y := Lib.hid I_3_x
  clear I_3_x hfb I_3
  have T_4 := Lib.hid (T_3.out.keep ((Keep.refl _).alloc (.cells #[.bool fb, .slice fa fn fc] 32)))
  have NX_4 := Lib.hid (NX_3.out.keep ((Keep.refl _).alloc (.cells #[.bool fb, .slice fa fn fc] 32)))
  have B_4 := Lib.hid (B_3.out.keep ((Keep.refl _).alloc (.cells #[.bool fb, .slice fa fn fc] 32)))
  have I_4 := Lib.hid (I_3_y.out.keep ((Keep.refl _).alloc (.cells #[.bool fb, .slice fa fn fc] 32)))
  have KW_4 := Lib.hid (KW_3.out.trans ((Keep.refl _).alloc (.cells #[.bool fb, .slice fa fn fc] 32)))
  clear T_3 NX_3 B_3 I_3_y KW_3
  have F_4 := Lib.hid (RBox.new w3 fb fa fn fc)
  obtain ⟨B_c0, B_c1, B_c2, -, -, -, -⟩ := id B_4.out
  obtain ⟨F_c0, F_c1, -, -, -⟩ := id F_4.out
  go_wp2_with fail
  refine Calls.mono (WH.out _ _ I_4.out) ?_
  rintro e w5 ⟨vS, rfl, hS, k5⟩
  clear B_c0 B_c1 B_c2 F_c0 F_c1
  have T_5 := Lib.hid (T_4.out.keep k5)
  have NX_5 := Lib.hid (NX_4.out.keep k5)
  have B_5 := Lib.hid (B_4.out.keep k5)
  have I_5 := Lib.hid (I_4.out.keep k5)
  have F_5 := Lib.hid (F_4.out.keep k5)
  have CS_5 := Lib.hid hS
  have KW_5 := Lib.hid (KW_4.out.trans k5)
  clear k5 T_4 NX_4 B_4 I_4 F_4 hS KW_4
  obtain ⟨aS, nS, cS, a'S, n'S, c'S, rfl, -⟩ := Cr.form CS_5.out
  have CS_5_x := CS_5.out
  obtain ⟨bS, hbS⟩ : ∃ b, decide (((F : Rat)).num < 0) = b := ⟨_, rfl⟩
  rw [hbS] at CS_5_x ⊢
  have CS_5_y := Lib.hid CS_5_x
  clear CS_5_x hbS CS_5
  have T_6 := Lib.hid (T_5.out.keep ((Keep.refl _).alloc (.cells #[.bool bS, .slice aS nS cS, .slice a'S n'S c'S] 25)))
  have NX_6 := Lib.hid (NX_5.out.keep ((Keep.refl _).alloc (.cells #[.bool bS, .slice aS nS cS, .slice a'S n'S c'S] 25)))
  have B_6 := Lib.hid (B_5.out.keep ((Keep.refl _).alloc (.cells #[.bool bS, .slice aS nS cS, .slice a'S n'S c'S] 25)))
  have I_6 := Lib.hid (I_5.out.keep ((Keep.refl _).alloc (.cells #[.bool bS, .slice aS nS cS, .slice a'S n'S c'S] 25)))
  have F_6 := Lib.hid (F_5.out.keep ((Keep.refl _).alloc (.cells #[.bool bS, .slice aS nS cS, .slice a'S n'S c'S] 25)))
  have CS_6 := Lib.hid (CS_5_y.out.keep ((Keep.refl _).alloc (.cells #[.bool bS, .slice aS nS cS, .slice a'S n'S c'S] 25)))
  have KW_6 := Lib.hid (KW_5.out.trans ((Keep.refl _).alloc (.cells #[.bool bS, .slice aS nS cS, .slice a'S n'S c'S] 25)))
  clear T_5 NX_5 B_5 I_5 F_5 CS_5_y KW_5
  have S_6 := Lib.hid (QBox.new w5 bS aS nS cS a'S n'S c'S)
  clear FL WH
  have T_7 := Lib.hid (T_6.out.keep (keep_drew _))
  clear T_6
  have NX_7 := Lib.hid (NX_6.out.keep (keep_drew _))
  clear NX_6
  have B_7 := Lib.hid (B_6.out.keep (keep_drew _))
  clear B_6
  have I_7 := Lib.hid (I_6.out.keep (keep_drew _))
  clear I_6
  have F_7 := Lib.hid (F_6.out.keep (keep_drew _))
  clear F_6
  have CS_7 := Lib.hid (CS_6.out.keep (keep_drew _))
  clear CS_6
  have S_7 := Lib.hid (S_6.out.keep (keep_drew _))
  clear S_6
  have KW_7 := Lib.hid (KW_6.out.trans (keep_drew _))
  clear KW_6
  obtain ⟨cF_7_0, cF_7_1, -, -, -⟩ := id F_7.out
  obtain ⟨cS_7_0, cS_7_1, cS_7_2, -, -, -, -⟩ := id S_7.out
  obtain ⟨cB_7_0, cB_7_1, cB_7_2, -, -, -, -⟩ := id B_7.out
  go_wp2
  go_region_held3 (fun w' => w'.cell? ⟨w3.heap.size, 0, none⟩ = some (.bool fb) ∧ w'.cell? ⟨w3.heap.size, 1, none⟩ = some (.slice fa fn fc) ∧ w'.cell? ⟨w5.heap.size, 0, none⟩ = some (.bool bS) ∧ w'.cell? ⟨w5.heap.size, 1, none⟩ = some (.slice aS nS cS) ∧ w'.cell? ⟨w5.heap.size, 2, none⟩ = some (.slice a'S n'S c'S) ∧ w'.cell? ⟨w.heap.size, 0, none⟩ = some (.bool s) ∧ w'.cell? ⟨w.heap.size, 1, none⟩ = some (.slice a n c) ∧ w'.cell? ⟨w.heap.size, 2, none⟩ = some (.slice a' n' c')) (first | exact ⟨cF_12_0, cF_12_1, cS_12_0, cS_12_1, cS_12_2, cB_12_0, cB_12_1, cB_12_2⟩ | exact ⟨cF_11_0, cF_11_1, cS_11_0, cS_11_1, cS_11_2, cB_11_0, cB_11_1, cB_11_2⟩ | exact ⟨cF_10_0, cF_10_1, cS_10_0, cS_10_1, cS_10_2, cB_10_0, cB_10_1, cB_10_2⟩ | exact ⟨cF_9_0, cF_9_1, cS_9_0, cS_9_1, cS_9_2, cB_9_0, cB_9_1, cB_9_2⟩ | exact ⟨cF_8_0, cF_8_1, cS_8_0, cS_8_1, cS_8_2, cB_8_0, cB_8_1, cB_8_2⟩ | exact ⟨cF_7_0, cF_7_1, cS_7_0, cS_7_1, cS_7_2, cB_7_0, cB_7_1, cB_7_2⟩ | go_keep)
    (first
      | (go_at_call 39; ((with_reducible refine Calls.mono (C2.out _ _ E_11.out NX_11.out) ?_); rintro e w12 ⟨rfl, k12⟩; have T_12 := Lib.hid (T_11.out.keep k12); have NX_12 := Lib.hid (NX_11.out.keep k12); have B_12 := Lib.hid (B_11.out.keep k12); have I_12 := Lib.hid (I_11.out.keep k12); have F_12 := Lib.hid (F_11.out.keep k12); have CS_12 := Lib.hid (CS_11.out.keep k12); have S_12 := Lib.hid (S_11.out.keep k12); have A_12 := Lib.hid (A_11.out.keep k12); have E_12 := Lib.hid (E_11.out.keep k12); have KW_12 := Lib.hid (KW_11.out.trans k12); obtain ⟨cF_12_0, cF_12_1, -, -, -⟩ := id F_12.out; obtain ⟨cS_12_0, cS_12_1, cS_12_2, -, -, -, -⟩ := id S_12.out; obtain ⟨cB_12_0, cB_12_1, cB_12_2, -, -, -, -⟩ := id B_12.out; clear k12))
      | (go_at_call 33; ((with_reducible refine Calls.mono (AD.out _ _ _ CS_10.out A_10.out) ?_); rintro e w11 ⟨x2, rfl, hB, k11⟩; have T_11 := Lib.hid (T_10.out.keep k11); have NX_11 := Lib.hid (NX_10.out.keep k11); have B_11 := Lib.hid (B_10.out.keep k11); have I_11 := Lib.hid (I_10.out.keep k11); have F_11 := Lib.hid (F_10.out.keep k11); have CS_11 := Lib.hid (CS_10.out.keep k11); have S_11 := Lib.hid (S_10.out.keep k11); have A_11 := Lib.hid (A_10.out.keep k11); have E_11 := Lib.hid hB; clear hB; have KW_11 := Lib.hid (KW_10.out.trans k11); obtain ⟨cF_11_0, cF_11_1, -, -, -⟩ := id F_11.out; obtain ⟨cS_11_0, cS_11_1, cS_11_2, -, -, -, -⟩ := id S_11.out; obtain ⟨cB_11_0, cB_11_1, cB_11_2, -, -, -, -⟩ := id B_11.out; clear k11))
      | (go_at_call 31; ((with_reducible refine Calls.mono (ONE.out _) ?_); rintro e w10 ⟨x1, rfl, hA, k10⟩; have T_10 := Lib.hid (T_9.out.keep k10); have NX_10 := Lib.hid (NX_9.out.keep k10); have B_10 := Lib.hid (B_9.out.keep k10); have I_10 := Lib.hid (I_9.out.keep k10); have F_10 := Lib.hid (F_9.out.keep k10); have CS_10 := Lib.hid (CS_9.out.keep k10); have S_10 := Lib.hid (S_9.out.keep k10); have A_10 := Lib.hid hA; clear hA; have KW_10 := Lib.hid (KW_9.out.trans k10); obtain ⟨cF_10_0, cF_10_1, -, -, -⟩ := id F_10.out; obtain ⟨cS_10_0, cS_10_1, cS_10_2, -, -, -, -⟩ := id S_10.out; obtain ⟨cB_10_0, cB_10_1, cB_10_2, -, -, -, -⟩ := id B_10.out; clear k10))
      | (go_at_call 39; ((with_reducible refine Calls.mono (C1.out _ _ CS_8.out NX_8.out) ?_); rintro e w9 ⟨rfl, k9⟩; have T_9 := Lib.hid (T_8.out.keep k9); have NX_9 := Lib.hid (NX_8.out.keep k9); have B_9 := Lib.hid (B_8.out.keep k9); have I_9 := Lib.hid (I_8.out.keep k9); have F_9 := Lib.hid (F_8.out.keep k9); have CS_9 := Lib.hid (CS_8.out.keep k9); have S_9 := Lib.hid (S_8.out.keep k9); have KW_9 := Lib.hid (KW_8.out.trans k9); obtain ⟨cF_9_0, cF_9_1, -, -, -⟩ := id F_9.out; obtain ⟨cS_9_0, cS_9_1, cS_9_2, -, -, -, -⟩ := id S_9.out; obtain ⟨cB_9_0, cB_9_1, cB_9_2, -, -, -, -⟩ := id B_9.out; clear k9))
      | (go_at_call 46; ((with_reducible refine Calls.mono (rivalid_z I_7.out) ?_); rintro e w8 ⟨rfl, k8⟩; have T_8 := Lib.hid (T_7.out.keep k8); have NX_8 := Lib.hid (NX_7.out.keep k8); have B_8 := Lib.hid (B_7.out.keep k8); have I_8 := Lib.hid (I_7.out.keep k8); have F_8 := Lib.hid (F_7.out.keep k8); have CS_8 := Lib.hid (CS_7.out.keep k8); have S_8 := Lib.hid (S_7.out.keep k8); have KW_8 := Lib.hid (KW_7.out.trans k8); obtain ⟨cF_8_0, cF_8_1, -, -, -⟩ := id F_8.out; obtain ⟨cS_8_0, cS_8_1, cS_8_2, -, -, -, -⟩ := id S_8.out; obtain ⟨cB_8_0, cB_8_1, cB_8_2, -, -, -, -⟩ := id B_8.out; clear k8)))
  clear cF_12_0 cF_12_1 cS_12_0 cS_12_1 cS_12_2 cB_12_0 cB_12_1 cB_12_2 cF_11_0 cF_11_1 cS_11_0 cS_11_1 cS_11_2 cB_11_0 cB_11_1 cB_11_2 cF_10_0 cF_10_1 cS_10_0 cS_10_1 cS_10_2 cB_10_0 cB_10_1 cB_10_2 cF_9_0 cF_9_1 cS_9_0 cS_9_1 cS_9_2 cB_9_0 cB_9_1 cB_9_2 cF_8_0 cF_8_1 cS_8_0 cS_8_1 cS_8_2 cB_8_0 cB_8_1 cB_8_2 cF_7_0 cF_7_1 cS_7_0 cS_7_1 cS_7_2 cB_7_0 cB_7_1 cB_7_2
  all_goals
    go_wp2_with fail
    go_ret
    exact ⟨rfl, KW_12.out⟩
theorem floor_law_c {w : World} {s : Bool} {a a' : Option Addr} {n c n' c' : Nat} {lx lx' : List Nat} (hx : Rd w a n c lx) (hx' : Rd w a' n' c' lx') (hT : Tab w) : Calls Tryd.prog 8 #[.agg #[.bool s, .slice a n c, .slice a' n' c']] w (BPost true w) := by
  by_cases fx : (n ≤ 3 ∧ n' ≤ 3)
  · exact floor_law_s hx hx' hT fx
  · exact floor_law_b0 hx hx' hT fx
end Go.Proofs.YtjkfnnoakjdgmaaDoor
