/- Walks of layer 3: the reference, Div, positive. -/
import Derived.Test.YtjkfnnoakjdgmaaGreatDoorRZ1
import Derived.Test.YtjkfnnoakjdgmaaGreatDoorRR6
import Derived.Test.YtjkfnnoakjdgmaaGreatDoorR16
import Derived.Deep.DeepCutAuto
import Derived.Outline
namespace Go.Proofs.YtjkfnnoakjdgmaaGreatDoor
open Go.RowKit
set_option linter.unusedVariables false
set_option maxHeartbeats 1600000 in
theorem rqdiv_c {w : World} {v u : Value} {p q : Rat} {k : Nat} (h : Ra w v p k) (h' : Ra w u q k) (hk : k ≤ 100000) (hk1 : 1 ≤ k) (h0 : q ≠ 0) : Calls Tryz.prog 47 #[v, u] w (R2Post (p / q) (.int .i64 0) w) := by
  obtain ⟨s, a, n, c, a', n', c', N, D, rfl, hN, hD, hp⟩ := h.form
  obtain ⟨t, b, m, g, b', m', g', M, E, rfl, hM, hE, hq⟩ := h'.form
  have hM0 : M ≠ 0 := by
    rintro rfl
    rw [rv_zero] at hq
    exact h0 hq.symm
  obtain ⟨B_0, C_0, R_0, KW_0⟩ := op2 w s a n c a' n' c' t b m g b' m' g'
  have X_0 := Lib.hid (hN.keep KW_0.out)
  have X'_0 := Lib.hid (hD.keep KW_0.out)
  have Y_0 := Lib.hid (hM.keep KW_0.out)
  have Y'_0 := Lib.hid (hE.keep KW_0.out)
  have QY_0 := Lib.hid (h'.keep KW_0.out)
  have lD := dn_lt' hD.lt hk1
  have lE := dn_lt' hE.lt hk1
  have lN := hN.lt
  have lM := hM.lt
  have O1 := Lib.hid (fun w1 (h : Nm w1 (.slice a' n' c') D k) => one_c h (by omega) hk1)
  have O2 := Lib.hid (fun w1 (h : Nm w1 (.slice b' m' g') E k) => one_c h (by omega) hk1)
  have M1 := Lib.hid (fun w1 v (h : Nm w1 (.slice a n c) N k) (h' : Nm w1 v (dn E) k) => rmul_n h h' (by omega))
  have M2 := Lib.hid (fun w1 u (h : Nm w1 u (dn D) k) (h' : Nm w1 (.slice b m g) M k) => rmul_n h h' (by omega))
  have l1 := lt_mul_pow lN lE
  have l2 := lt_mul_pow lD lM
  have QU := Lib.hid (fun w1 x u (hx : Cn w1 x (N * dn E)) (hu : Cn w1 u (dn D * M)) => quot_c (!(s == t)) (hx.nm l1) (hu.nm l2) (Nat.mul_ne_zero (dn_ne D) hM0) (by omega))
  have hr : rv (!(s == t)) (N * dn E) (dn D * M) = p / q := by
    rw [← hp, ← hq, Rat.div_def, rv_inv t E hM0, rv_mul, dn_of hM0]; rfl
  rw [hr] at QU
  have SG := Lib.hid (fun w1 (h : Ra w1 (.agg #[.bool t, .slice b m g, .slice b' m' g']) q k) => rqsign_c h (by omega))
  obtain ⟨z, hz⟩ : ∃ z, rS q = z := ⟨_, rfl⟩
  have hz0 : (z == 0) = false := by
    rw [← hz]
    refine beq_false_of_ne fun e => h0 ?_
    rcases rC_facts q 0 with f | f | f
    · rw [show rS q = rC q 0 from rfl, f.1] at e; cases e
    · exact f.2
    · rw [show rS q = rC q 0 from rfl, f.1] at e; cases e
  rw [hz] at SG
  obtain ⟨r, hr'⟩ : ∃ r, p / q = r := ⟨_, rfl⟩
  rw [hr'] at QU ⊢
  clear h h' hN hD hM hE hp hq lD lE lN lM l1 l2 hr hr' h0 hM0 hz
  go_enter Tryz.func47, Tryz.ntmps47
  obtain ⟨B_c0, B_c1, B_c2, -, -, -, -⟩ := id B_0.out
  obtain ⟨C_c0, C_c1, C_c2, -, -, -, -⟩ := id C_0.out
  obtain ⟨R_c0, R_c1, R_c2, -, -, -, -⟩ := id R_0.out
  go_wp2_with fail
  refine Calls.mono (SG.out _ QY_0.out) ?_
  rintro e w1 ⟨rfl, k1⟩
  clear B_c0 B_c1 B_c2 C_c0 C_c1 C_c2 R_c0 R_c1 R_c2
  have X_1 := Lib.hid (X_0.out.keep k1)
  have X'_1 := Lib.hid (X'_0.out.keep k1)
  have Y_1 := Lib.hid (Y_0.out.keep k1)
  have Y'_1 := Lib.hid (Y'_0.out.keep k1)
  have QY_1 := Lib.hid (QY_0.out.keep k1)
  have B_1 := Lib.hid (B_0.out.keep k1)
  have C_1 := Lib.hid (C_0.out.keep k1)
  have R_1 := Lib.hid (R_0.out.keep k1)
  have KW_1 := Lib.hid (KW_0.out.trans k1)
  clear k1 X_0 X'_0 Y_0 Y'_0 QY_0 B_0 C_0 R_0 KW_0
  obtain ⟨oB_0, oB_1, oB_2, -, -, -, -⟩ := id B_1.out
  obtain ⟨oC_0, oC_1, oC_2, -, -, -, -⟩ := id C_1.out
  obtain ⟨oR_0, oR_1, oR_2, -, -, -, -⟩ := id R_1.out
  have X_2 := Lib.hid (X_1.out.keep (keep_drew _))
  clear X_1
  have X'_2 := Lib.hid (X'_1.out.keep (keep_drew _))
  clear X'_1
  have Y_2 := Lib.hid (Y_1.out.keep (keep_drew _))
  clear Y_1
  have Y'_2 := Lib.hid (Y'_1.out.keep (keep_drew _))
  clear Y'_1
  have QY_2 := Lib.hid (QY_1.out.keep (keep_drew _))
  clear QY_1
  have B_2 := Lib.hid (B_1.out.keep (keep_drew _))
  clear B_1
  have C_2 := Lib.hid (C_1.out.keep (keep_drew _))
  clear C_1
  have R_2 := Lib.hid (R_1.out.keep (keep_drew _))
  clear R_1
  have KW_2 := Lib.hid (KW_1.out.trans (keep_drew _))
  clear KW_1
  obtain ⟨cB_2_0, cB_2_1, cB_2_2, -, -, -, -⟩ := id B_2.out
  obtain ⟨cC_2_0, cC_2_1, cC_2_2, -, -, -, -⟩ := id C_2.out
  go_wp2
  go_region_held3 (fun w' => w'.cell? ⟨w.heap.size, 0, none⟩ = some (.bool s) ∧ w'.cell? ⟨w.heap.size, 1, none⟩ = some (.slice a n c) ∧ w'.cell? ⟨w.heap.size, 2, none⟩ = some (.slice a' n' c') ∧ w'.cell? ⟨w.heap.size + 1, 0, none⟩ = some (.bool t) ∧ w'.cell? ⟨w.heap.size + 1, 1, none⟩ = some (.slice b m g) ∧ w'.cell? ⟨w.heap.size + 1, 2, none⟩ = some (.slice b' m' g')) (first | exact ⟨yB_0, yB_1, yB_2, yC_0, yC_1, yC_2⟩ | exact ⟨zB_0, zB_1, zB_2, zC_0, zC_1, zC_2⟩ | exact ⟨cB_6_0, cB_6_1, cB_6_2, cC_6_0, cC_6_1, cC_6_2⟩ | exact ⟨cB_5_0, cB_5_1, cB_5_2, cC_5_0, cC_5_1, cC_5_2⟩ | exact ⟨cB_4_0, cB_4_1, cB_4_2, cC_4_0, cC_4_1, cC_4_2⟩ | exact ⟨cB_3_0, cB_3_1, cB_3_2, cC_3_0, cC_3_1, cC_3_2⟩ | exact ⟨cB_2_0, cB_2_1, cB_2_2, cC_2_0, cC_2_1, cC_2_2⟩ | go_keep)
    (first
      | (go_at_call 66; ((with_reducible refine Calls.mono (QU.out _ _ _ P_6.out Q_6.out) ?_); rintro e wz ⟨u, rfl, hu, kz⟩; obtain ⟨b0, a0, n0, c0, a1, n1, c1, rfl, hcr, hkk, f0, f1, f2, g0, g1, g2, s0, s1, s2⟩ := hu.put (R_6.out.keep kz) (KW_6.out.trans kz) (by omega); have FIN := Lib.hid (show R2Post r (.int .i64 0) w (.returned (.tuple #[.agg #[.bool b0, .slice a0 n0 c0, .slice a1 n1 c1], .int .i64 0])) _ from ⟨_, rfl, hcr, hkk⟩); have YB := (B_6.out.keep kz).other3 (g := w.heap.size + 1 + 1) (by omega) (.bool b0) (.slice a0 n0 c0) (.slice a1 n1 c1); obtain ⟨yB_0, yB_1, yB_2, -, -, -, -⟩ := YB; obtain ⟨zB_0, zB_1, zB_2, -, -, -, -⟩ := B_6.out.keep kz; have YC := (C_6.out.keep kz).other3 (g := w.heap.size + 1 + 1) (by omega) (.bool b0) (.slice a0 n0 c0) (.slice a1 n1 c1); obtain ⟨yC_0, yC_1, yC_2, -, -, -, -⟩ := YC; obtain ⟨zC_0, zC_1, zC_2, -, -, -, -⟩ := C_6.out.keep kz; clear hcr hkk hu kz))
      | (go_at_call_of 71 (x3); ((with_reducible refine Calls.mono (M2.out _ _ V_5.out Y_5.out) ?_); rintro e w6 ⟨x4, rfl, hQ, k6⟩; have X_6 := Lib.hid (X_5.out.keep k6); have X'_6 := Lib.hid (X'_5.out.keep k6); have Y_6 := Lib.hid (Y_5.out.keep k6); have Y'_6 := Lib.hid (Y'_5.out.keep k6); have QY_6 := Lib.hid (QY_5.out.keep k6); have B_6 := Lib.hid (B_5.out.keep k6); have C_6 := Lib.hid (C_5.out.keep k6); have R_6 := Lib.hid (R_5.out.keep k6); have U_6 := Lib.hid (U_5.out.keep k6); have P_6 := Lib.hid (P_5.out.keep k6); have V_6 := Lib.hid (V_5.out.keep k6); have Q_6 := Lib.hid hQ; clear hQ; have KW_6 := Lib.hid (KW_5.out.trans k6); obtain ⟨cB_6_0, cB_6_1, cB_6_2, -, -, -, -⟩ := id B_6.out; obtain ⟨cC_6_0, cC_6_1, cC_6_2, -, -, -, -⟩ := id C_6.out; clear k6))
      | (go_at_call_of 67 (Value.slice a' n' c'); ((with_reducible refine Calls.mono (O1.out _ X'_4.out) ?_); rintro e w5 ⟨x3, rfl, hV, k5⟩; have X_5 := Lib.hid (X_4.out.keep k5); have X'_5 := Lib.hid (X'_4.out.keep k5); have Y_5 := Lib.hid (Y_4.out.keep k5); have Y'_5 := Lib.hid (Y'_4.out.keep k5); have QY_5 := Lib.hid (QY_4.out.keep k5); have B_5 := Lib.hid (B_4.out.keep k5); have C_5 := Lib.hid (C_4.out.keep k5); have R_5 := Lib.hid (R_4.out.keep k5); have U_5 := Lib.hid (U_4.out.keep k5); have P_5 := Lib.hid (P_4.out.keep k5); have V_5 := Lib.hid hV; clear hV; have KW_5 := Lib.hid (KW_4.out.trans k5); obtain ⟨cB_5_0, cB_5_1, cB_5_2, -, -, -, -⟩ := id B_5.out; obtain ⟨cC_5_0, cC_5_1, cC_5_2, -, -, -, -⟩ := id C_5.out; clear k5))
      | (go_at_call_of 71 (Value.slice a n c); ((with_reducible refine Calls.mono (M1.out _ _ X_3.out U_3.out) ?_); rintro e w4 ⟨x1, rfl, hP, k4⟩; have X_4 := Lib.hid (X_3.out.keep k4); have X'_4 := Lib.hid (X'_3.out.keep k4); have Y_4 := Lib.hid (Y_3.out.keep k4); have Y'_4 := Lib.hid (Y'_3.out.keep k4); have QY_4 := Lib.hid (QY_3.out.keep k4); have B_4 := Lib.hid (B_3.out.keep k4); have C_4 := Lib.hid (C_3.out.keep k4); have R_4 := Lib.hid (R_3.out.keep k4); have U_4 := Lib.hid (U_3.out.keep k4); have P_4 := Lib.hid hP; clear hP; have KW_4 := Lib.hid (KW_3.out.trans k4); obtain ⟨cB_4_0, cB_4_1, cB_4_2, -, -, -, -⟩ := id B_4.out; obtain ⟨cC_4_0, cC_4_1, cC_4_2, -, -, -, -⟩ := id C_4.out; clear k4))
      | (go_at_call_of 67 (Value.slice b' m' g'); ((with_reducible refine Calls.mono (O2.out _ Y'_2.out) ?_); rintro e w3 ⟨x2, rfl, hU, k3⟩; have X_3 := Lib.hid (X_2.out.keep k3); have X'_3 := Lib.hid (X'_2.out.keep k3); have Y_3 := Lib.hid (Y_2.out.keep k3); have Y'_3 := Lib.hid (Y'_2.out.keep k3); have QY_3 := Lib.hid (QY_2.out.keep k3); have B_3 := Lib.hid (B_2.out.keep k3); have C_3 := Lib.hid (C_2.out.keep k3); have R_3 := Lib.hid (R_2.out.keep k3); have U_3 := Lib.hid hU; clear hU; have KW_3 := Lib.hid (KW_2.out.trans k3); obtain ⟨cB_3_0, cB_3_1, cB_3_2, -, -, -, -⟩ := id B_3.out; obtain ⟨cC_3_0, cC_3_1, cC_3_2, -, -, -, -⟩ := id C_3.out; clear k3)))
  all_goals
    go_wp2
    refine bodyPost_ret (v := .tuple #[.agg #[.bool b0, .slice a0 n0 c0, .slice a1 n1 c1], .int .i64 0]) (by simp [results, Tryz.results47, go_sem, s0, s1, s2]) rfl ?_
    exact FIN.out
set_option maxHeartbeats 4000000 in
theorem rpos_s (N : Nat) (ih : ∀ {w : World} {v u : Value} {lo hi : Rat} {k : Nat}, Ra w v lo k → Ra w u hi k → 0 < lo → lo ≤ hi → lo.den + hi.den ≤ N → 1 ≤ k → k < 47 → Calls Tryz.prog 21 #[v, u] w (RPost (smpF N lo hi) w))
    {w : World} {s t : Bool} {a a' b b' : Option Addr} {n c n' c' m g m' g' k : Nat} {lo hi : Rat} (hx : Ra w (.agg #[.bool s, .slice a n c, .slice a' n' c']) lo k) (hy : Ra w (.agg #[.bool t, .slice b m g, .slice b' m' g']) hi k) (h0 : 0 < lo) (h1 : lo ≤ hi) (hN : lo.den + hi.den ≤ N + 1) (hk1 : 1 ≤ k) (hk : k < 47) :
    Calls Tryz.prog 21 #[.agg #[.bool s, .slice a n c, .slice a' n' c'], .agg #[.bool t, .slice b m g, .slice b' m' g']] w (RPost (smpF (N + 1) lo hi) w) := by
  obtain ⟨B_0, C_0, R_0, KW_0⟩ := op2 w s a n c a' n' c' t b m g b' m' g'
  have X_0 := Lib.hid (hx.keep KW_0.out)
  have Y_0 := Lib.hid (hy.keep KW_0.out)
  have rlo := hx.rb hk1
  have rhi := hy.rb hk1
  obtain ⟨f0, fB⟩ := floor_rb h0 rlo
  have hnum : 0 ≤ lo.num := by have := num_pos' h0; omega
  have FL := Lib.hid (fun w1 (h : Ra w1 (.agg #[.bool s, .slice a n c, .slice a' n' c']) lo k) => rfloor_c h (by omega) hk1 hnum)
  have hfle : (lo.floor : Rat) ≤ lo := Rat.floor_le lo
  have hsm : smpF (N + 1) lo hi = if (lo.floor : Rat) = lo then lo else if (lo.floor : Rat) + 1 ≤ hi then (lo.floor : Rat) + 1 else (lo.floor : Rat) + (smpF N (hi - (lo.floor : Rat))⁻¹ (lo - (lo.floor : Rat))⁻¹)⁻¹ := rfl
  obtain ⟨F, hF⟩ : ∃ F, lo.floor = F := ⟨_, rfl⟩
  rw [hF] at FL hfle hsm f0 fB
  have WH := Lib.hid (fun w1 v (hv : Ci w1 v F) => rwhole_z (k := k) hv fB (by omega) hk1)
  have CP := Lib.hid (fun w1 u (hu : Ra w1 u (F : Rat) k) (h : Ra w1 (.agg #[.bool s, .slice a n c, .slice a' n' c']) lo k) => rqcmp_c hu h (by omega) hk1)
  have HF := Lib.hid (And.intro f0 fB)
  have HFLE := Lib.hid hfle
  have HLO := Lib.hid (And.intro h0 h1)
  have HRB := Lib.hid (And.intro rlo rhi)
  have HFD := Lib.hid hF
  have HDN := Lib.hid hN
  clear hnum
  clear hx hy rlo rhi hfle hF f0 fB h0 h1 hN
  have hrF : Rb (F : Rat) k := rb_int HF.out.2 hk1
  have HRF := Lib.hid hrF
  clear hrF
  by_cases hc : (F : Rat) = lo
  · rw [hsm, if_pos hc]
    obtain ⟨z, hz⟩ : ∃ z, rC (F : Rat) lo = z := ⟨_, rfl⟩
    have hz0 : (z == 0) = true := by rw [← hz, hc, rC_self]; rfl
    rw [hz] at CP
    rw [← hc]
    clear hsm ih hz hc
    go_enter Tryz.func21, Tryz.ntmps21
    obtain ⟨B_c0, B_c1, B_c2, -, -, -, -⟩ := id B_0.out
    obtain ⟨C_c0, C_c1, C_c2, -, -, -, -⟩ := id C_0.out
    obtain ⟨R_c0, R_c1, R_c2, -, -, -, -⟩ := id R_0.out
    go_wp2_with fail
    refine Calls.mono (FL.out _ X_0.out) ?_
    rintro e w1 ⟨vF, rfl, hI, k1⟩
    clear B_c0 B_c1 B_c2 C_c0 C_c1 C_c2 R_c0 R_c1 R_c2
    have X_1 := Lib.hid (X_0.out.keep k1)
    have Y_1 := Lib.hid (Y_0.out.keep k1)
    have B_1 := Lib.hid (B_0.out.keep k1)
    have C_1 := Lib.hid (C_0.out.keep k1)
    have R_1 := Lib.hid (R_0.out.keep k1)
    have I_1 := Lib.hid hI
    have KW_1 := Lib.hid (KW_0.out.trans k1)
    clear k1 X_0 Y_0 B_0 C_0 R_0 hI KW_0
    obtain ⟨B_c0, B_c1, B_c2, -, -, -, -⟩ := id B_1.out
    obtain ⟨C_c0, C_c1, C_c2, -, -, -, -⟩ := id C_1.out
    obtain ⟨R_c0, R_c1, R_c2, -, -, -, -⟩ := id R_1.out
    go_wp2_with fail
    refine Calls.mono (WH.out _ _ I_1.out) ?_
    rintro e w2 ⟨vW, rfl, hW, k2⟩
    clear B_c0 B_c1 B_c2 C_c0 C_c1 C_c2 R_c0 R_c1 R_c2
    have X_2 := Lib.hid (X_1.out.keep k2)
    have Y_2 := Lib.hid (Y_1.out.keep k2)
    have B_2 := Lib.hid (B_1.out.keep k2)
    have C_2 := Lib.hid (C_1.out.keep k2)
    have R_2 := Lib.hid (R_1.out.keep k2)
    have CWB_2 := Lib.hid hW
    have KW_2 := Lib.hid (KW_1.out.trans k2)
    clear k2 I_1 X_1 Y_1 B_1 C_1 R_1 hW KW_1
    obtain ⟨wa, wn, wcc, wa', wn', wcc', rfl, -⟩ := Cr.form CWB_2.out
    have CWB_2_x := CWB_2.out
    obtain ⟨bw, hbw⟩ : ∃ b, decide ((F : Rat).num < 0) = b := ⟨_, rfl⟩
    rw [hbw] at CWB_2_x ⊢
    have CWB_2_y := Lib.hid CWB_2_x
    clear CWB_2_x hbw CWB_2
    have X_3 := Lib.hid (X_2.out.keep ((Keep.refl _).alloc (.cells #[.bool bw, .slice wa wn wcc, .slice wa' wn' wcc'] 25)))
    have Y_3 := Lib.hid (Y_2.out.keep ((Keep.refl _).alloc (.cells #[.bool bw, .slice wa wn wcc, .slice wa' wn' wcc'] 25)))
    have B_3 := Lib.hid (B_2.out.keep ((Keep.refl _).alloc (.cells #[.bool bw, .slice wa wn wcc, .slice wa' wn' wcc'] 25)))
    have C_3 := Lib.hid (C_2.out.keep ((Keep.refl _).alloc (.cells #[.bool bw, .slice wa wn wcc, .slice wa' wn' wcc'] 25)))
    have R_3 := Lib.hid (R_2.out.keep ((Keep.refl _).alloc (.cells #[.bool bw, .slice wa wn wcc, .slice wa' wn' wcc'] 25)))
    have CWB_3 := Lib.hid (CWB_2_y.out.keep ((Keep.refl _).alloc (.cells #[.bool bw, .slice wa wn wcc, .slice wa' wn' wcc'] 25)))
    have KW_3 := Lib.hid (KW_2.out.trans ((Keep.refl _).alloc (.cells #[.bool bw, .slice wa wn wcc, .slice wa' wn' wcc'] 25)))
    clear X_2 Y_2 B_2 C_2 R_2 CWB_2_y KW_2
    have WB_3 := Lib.hid (QBox.new w2 bw wa wn wcc wa' wn' wcc')
    obtain ⟨B_c0, B_c1, B_c2, -, -, -, -⟩ := id B_3.out
    obtain ⟨C_c0, C_c1, C_c2, -, -, -, -⟩ := id C_3.out
    obtain ⟨R_c0, R_c1, R_c2, -, -, -, -⟩ := id R_3.out
    obtain ⟨WB_c0, WB_c1, WB_c2, -, -, -, -⟩ := id WB_3.out
    go_wp2_with fail
    refine Calls.mono (CP.out _ _ (CWB_3.out.ra HRF.out) X_3.out) ?_
    rintro e w4 ⟨rfl, k4⟩
    clear B_c0 B_c1 B_c2 C_c0 C_c1 C_c2 R_c0 R_c1 R_c2 WB_c0 WB_c1 WB_c2
    have X_4 := Lib.hid (X_3.out.keep k4)
    have Y_4 := Lib.hid (Y_3.out.keep k4)
    have B_4 := Lib.hid (B_3.out.keep k4)
    have C_4 := Lib.hid (C_3.out.keep k4)
    have R_4 := Lib.hid (R_3.out.keep k4)
    have CWB_4 := Lib.hid (CWB_3.out.keep k4)
    have WB_4 := Lib.hid (WB_3.out.keep k4)
    have KW_4 := Lib.hid (KW_3.out.trans k4)
    clear k4 X_3 Y_3 B_3 C_3 R_3 CWB_3 WB_3 KW_3
    have hrds := (CWB_4.out).rds
    obtain ⟨FF, -, s0, s1, s2⟩ := put_of (w0 := w) hrds.1 hrds.2.1 hrds.2.2 R_4.out KW_4.out (by omega)
    have FIN := Lib.hid FF
    obtain ⟨R_c0, R_c1, R_c2, R_f0, R_f1, R_f2, -⟩ := id R_4.out
    obtain ⟨m0, m1, m2, -⟩ := id WB_4.out
    clear FF hrds
    go_wp2
    refine bodyPost_ret (v := .agg #[.bool bw, .slice wa wn wcc, .slice wa' wn' wcc']) (by simp [results, Tryz.results21, go_sem, s0, s1, s2]) rfl ?_
    exact FIN.out
  · rw [hsm, if_neg hc]
    have hflt : (F : Rat) < lo := Rat.lt_of_le_of_ne HFLE.out hc
    rw [rC_lt hflt] at CP
    have HFLT := Lib.hid hflt
    have AD := Lib.hid (fun w1 u v (hu : Cr w1 u (F : Rat)) (hv : Cr w1 v ((1 : Int) : Rat)) => rqadd_c (hu.ra HRF.out) (hv.ra (rb_int (k := k) (one_lt_BB hk1) hk1)) (by omega) hk1)
    have OF1 := Lib.hid (fun w1 => rqof_c 1 w1 (by omega) (by omega))
    have hq1 : (F : Rat) + ((1 : Int) : Rat) = (F : Rat) + 1 := rfl
    rw [hq1] at AD
    have hrb1 : Rb ((F : Rat) + 1) (k + 1) := by
      have e : (F : Rat) + 1 = ((F + 1 : Int) : Rat) := by rw [Rat.intCast_add]; rfl
      rw [e]
      refine rb_int ?_ (by omega)
      have h1 := HF.out.2
      have h2 := one_lt_BB hk1
      have h3 := lt_add_pow h1 h2
      have := HF.out.1
      omega
    have CP2 := Lib.hid (fun w1 u (hu : Cr w1 u ((F : Rat) + 1)) (h : Ra w1 (.agg #[.bool t, .slice b m g, .slice b' m' g']) hi k) => rqcmp_c (hu.ra hrb1) (h.up (Nat.le_succ k)) (by omega) (by omega))
    have HRB1 := Lib.hid hrb1
    clear hsm hc hflt hq1 hrb1
    by_cases hc2 : (F : Rat) + 1 ≤ hi
    · rw [if_pos hc2]
      obtain ⟨z, hz⟩ : ∃ z, rC ((F : Rat) + 1) hi = z := ⟨_, rfl⟩
      have hzd : decide (z ≤ 0) = true := decide_eq_true (by
        rw [← hz]; rcases rC_facts ((F : Rat) + 1) hi with h | h | h
        · rw [h.1]; decide
        · rw [h.1]; decide
        · exact absurd hc2 (by rw [Rat.not_le]; exact h.2))
      rw [hz] at CP2
      clear hz ih hc2
      go_enter Tryz.func21, Tryz.ntmps21
      obtain ⟨B_c0, B_c1, B_c2, -, -, -, -⟩ := id B_0.out
      obtain ⟨C_c0, C_c1, C_c2, -, -, -, -⟩ := id C_0.out
      obtain ⟨R_c0, R_c1, R_c2, -, -, -, -⟩ := id R_0.out
      go_wp2_with fail
      refine Calls.mono (FL.out _ X_0.out) ?_
      rintro e w1 ⟨vF, rfl, hI, k1⟩
      clear B_c0 B_c1 B_c2 C_c0 C_c1 C_c2 R_c0 R_c1 R_c2
      have X_1 := Lib.hid (X_0.out.keep k1)
      have Y_1 := Lib.hid (Y_0.out.keep k1)
      have B_1 := Lib.hid (B_0.out.keep k1)
      have C_1 := Lib.hid (C_0.out.keep k1)
      have R_1 := Lib.hid (R_0.out.keep k1)
      have I_1 := Lib.hid hI
      have KW_1 := Lib.hid (KW_0.out.trans k1)
      clear k1 X_0 Y_0 B_0 C_0 R_0 hI KW_0
      obtain ⟨B_c0, B_c1, B_c2, -, -, -, -⟩ := id B_1.out
      obtain ⟨C_c0, C_c1, C_c2, -, -, -, -⟩ := id C_1.out
      obtain ⟨R_c0, R_c1, R_c2, -, -, -, -⟩ := id R_1.out
      go_wp2_with fail
      refine Calls.mono (WH.out _ _ I_1.out) ?_
      rintro e w2 ⟨vW, rfl, hW, k2⟩
      clear B_c0 B_c1 B_c2 C_c0 C_c1 C_c2 R_c0 R_c1 R_c2
      have X_2 := Lib.hid (X_1.out.keep k2)
      have Y_2 := Lib.hid (Y_1.out.keep k2)
      have B_2 := Lib.hid (B_1.out.keep k2)
      have C_2 := Lib.hid (C_1.out.keep k2)
      have R_2 := Lib.hid (R_1.out.keep k2)
      have CWB_2 := Lib.hid hW
      have KW_2 := Lib.hid (KW_1.out.trans k2)
      clear k2 I_1 X_1 Y_1 B_1 C_1 R_1 hW KW_1
      obtain ⟨wa, wn, wcc, wa', wn', wcc', rfl, -⟩ := Cr.form CWB_2.out
      have CWB_2_x := CWB_2.out
      obtain ⟨bw, hbw⟩ : ∃ b, decide ((F : Rat).num < 0) = b := ⟨_, rfl⟩
      rw [hbw] at CWB_2_x ⊢
      have CWB_2_y := Lib.hid CWB_2_x
      clear CWB_2_x hbw CWB_2
      have X_3 := Lib.hid (X_2.out.keep ((Keep.refl _).alloc (.cells #[.bool bw, .slice wa wn wcc, .slice wa' wn' wcc'] 25)))
      have Y_3 := Lib.hid (Y_2.out.keep ((Keep.refl _).alloc (.cells #[.bool bw, .slice wa wn wcc, .slice wa' wn' wcc'] 25)))
      have B_3 := Lib.hid (B_2.out.keep ((Keep.refl _).alloc (.cells #[.bool bw, .slice wa wn wcc, .slice wa' wn' wcc'] 25)))
      have C_3 := Lib.hid (C_2.out.keep ((Keep.refl _).alloc (.cells #[.bool bw, .slice wa wn wcc, .slice wa' wn' wcc'] 25)))
      have R_3 := Lib.hid (R_2.out.keep ((Keep.refl _).alloc (.cells #[.bool bw, .slice wa wn wcc, .slice wa' wn' wcc'] 25)))
      have CWB_3 := Lib.hid (CWB_2_y.out.keep ((Keep.refl _).alloc (.cells #[.bool bw, .slice wa wn wcc, .slice wa' wn' wcc'] 25)))
      have KW_3 := Lib.hid (KW_2.out.trans ((Keep.refl _).alloc (.cells #[.bool bw, .slice wa wn wcc, .slice wa' wn' wcc'] 25)))
      clear X_2 Y_2 B_2 C_2 R_2 CWB_2_y KW_2
      have WB_3 := Lib.hid (QBox.new w2 bw wa wn wcc wa' wn' wcc')
      obtain ⟨B_c0, B_c1, B_c2, -, -, -, -⟩ := id B_3.out
      obtain ⟨C_c0, C_c1, C_c2, -, -, -, -⟩ := id C_3.out
      obtain ⟨R_c0, R_c1, R_c2, -, -, -, -⟩ := id R_3.out
      obtain ⟨WB_c0, WB_c1, WB_c2, -, -, -, -⟩ := id WB_3.out
      go_wp2_with fail
      refine Calls.mono (CP.out _ _ (CWB_3.out.ra HRF.out) X_3.out) ?_
      rintro e w4 ⟨rfl, k4⟩
      clear B_c0 B_c1 B_c2 C_c0 C_c1 C_c2 R_c0 R_c1 R_c2 WB_c0 WB_c1 WB_c2
      have X_4 := Lib.hid (X_3.out.keep k4)
      have Y_4 := Lib.hid (Y_3.out.keep k4)
      have B_4 := Lib.hid (B_3.out.keep k4)
      have C_4 := Lib.hid (C_3.out.keep k4)
      have R_4 := Lib.hid (R_3.out.keep k4)
      have CWB_4 := Lib.hid (CWB_3.out.keep k4)
      have WB_4 := Lib.hid (WB_3.out.keep k4)
      have KW_4 := Lib.hid (KW_3.out.trans k4)
      clear k4 X_3 Y_3 B_3 C_3 R_3 CWB_3 WB_3 KW_3
      clear CP
      go_upto_region 4 with fail
      go_cut [6] (fun vv wc => PBoxQ w4 0 ((F : Rat) + 1) vv wc)
      case first =>
        have SK : Hid (∀ wk : World, Keep (w4) wk → wk.cell? ⟨w2.heap.size, 0, none⟩ = some (.bool bw) ∧ wk.cell? ⟨w2.heap.size, 1, none⟩ = some (.slice wa wn wcc) ∧ wk.cell? ⟨w2.heap.size, 2, none⟩ = some (.slice wa' wn' wcc')) := Lib.hid (fun wk h => ⟨(WB_4.out.keep h).c0, (WB_4.out.keep h).c1, (WB_4.out.keep h).c2⟩)
        have kS_0 : Keep (w4) (w4.drew) := (Keep.refl _).drew
        have kS_1 : Keep (w4) ((w4.alloc (.cells #[.bool false, .slice none 0 0, .slice none 0 0] 25)).drew) := ((Keep.alloc (Keep.refl _) _)).drew
        obtain ⟨cz_0, cz_1, cz_2⟩ := SK.out _ kS_0
        go_wp2
        go_region_held3 (fun w' => w'.cell? ⟨w2.heap.size, 0, none⟩ = some (.bool bw) ∧ w'.cell? ⟨w2.heap.size, 1, none⟩ = some (.slice wa wn wcc) ∧ w'.cell? ⟨w2.heap.size, 2, none⟩ = some (.slice wa' wn' wcc')) (first | with_reducible exact SK.out _ kS_0 | with_reducible exact SK.out _ kS_1 | with_reducible exact SK.out _ hW_1 | with_reducible exact SK.out _ (Keep.alloc hW_1 _) | with_reducible exact SK.out _ hW_2 | with_reducible exact SK.out _ (Keep.alloc hW_2 _) | (refine SK.out _ ?_; (repeat' (first | exact Keep.refl _ | assumption | refine Keep.alloc ?_ _ | refine Keep.drew ?_ | refine keep_set ?_ (by first | exact Nat.le_refl _ | assumption | (simp <;> omega)) _ | (refine Keep.trans ?_ (by assumption))))) | go_keep)
          (first
            | (go_at_call 46; ((with_reducible refine Calls.mono (OF1.out _) ?_); rintro e v1 ⟨vO, rfl, hO, k1⟩; (have hW_1 : Keep (w4) v1 := Keep.trans kS_0 k1); (have O_r := Lib.hid hO); clear hO; (have mk_1_0 := trivial)))
            | (go_at_call 46; ((with_reducible refine Calls.mono (OF1.out _) ?_); rintro e v1 ⟨vO, rfl, hO, k1⟩; (have hW_1 : Keep (w4) v1 := Keep.trans kS_1 k1); (have O_r := Lib.hid hO); clear hO; (have mk_1_1 := trivial); (have NB_1 := Lib.hid (((QBox.new w4 false none 0 0 none 0 0).at (g' := w4.heap.size) (by first | rfl | simp)).keep (show Keep ((w4.alloc (.cells #[.bool false, .slice none 0 0, .slice none 0 0] 25))) v1 from Keep.trans (Keep.drew (Keep.refl _)) k1)))))
            | (go_at_call 45; ((have mark := mk_1_0); (with_reducible refine Calls.mono (AD.out _ _ _ (CWB_4.out.keep hW_1) (O_r.out.keep (Keep.refl _))) ?_); rintro e v2 ⟨vQ, rfl, hq, k2⟩; (have hW_2 : Keep (w4) v2 := Keep.trans hW_1 k2); (have hc_1_2 : Keep v1 v2 := Keep.trans (Keep.refl _) k2); (have Q_r := Lib.hid hq); clear hq; (have mk_2_00 := trivial); obtain ⟨za, zn, zc, za', zn', zc', rfl, -⟩ := Cr.form Q_r.out; (obtain ⟨bz, hbz⟩ : ∃ b, decide (((F : Rat) + 1).num < 0) = b := ⟨_, rfl⟩); (have Q2 := Q_r.out); rw [hbz] at Q2 ⊢; (have Q3 := Lib.hid Q2); clear Q2 hbz Q_r; (have hlo : 0 ≤ v2.heap.size := Nat.zero_le _); (have FIN := Lib.hid (PBoxQ.post Q3.out hlo hW_2))))
            | (go_at_call 45; ((have mark := mk_1_0); (with_reducible refine Calls.mono (AD.out _ _ _ (CWB_4.out.keep (Keep.alloc hW_1 _)) (O_r.out.keep (Keep.alloc (Keep.refl _) _))) ?_); rintro e v2 ⟨vQ, rfl, hq, k2⟩; (have hW_2 : Keep (w4) v2 := Keep.trans (Keep.alloc hW_1 _) k2); (have hc_1_2 : Keep v1 v2 := Keep.trans (Keep.alloc (Keep.refl _) _) k2); (have Q_r := Lib.hid hq); clear hq; (have mk_2_01 := trivial); (have NB_2 := Lib.hid (((QBox.new v1 false none 0 0 none 0 0).at (g' := v1.heap.size) (by first | rfl | simp)).keep (show Keep ((v1.alloc (.cells #[.bool false, .slice none 0 0, .slice none 0 0] 25))) v2 from Keep.trans (Keep.refl _) k2))); obtain ⟨za, zn, zc, za', zn', zc', rfl, -⟩ := Cr.form Q_r.out; (obtain ⟨bz, hbz⟩ : ∃ b, decide (((F : Rat) + 1).num < 0) = b := ⟨_, rfl⟩); (have Q2 := Q_r.out); rw [hbz] at Q2 ⊢; (have Q3 := Lib.hid Q2); clear Q2 hbz Q_r; (have hlo : 0 ≤ v1.heap.size := Nat.zero_le _); (have hgw : (w4).heap.size ≤ v1.heap.size := (by have h9 := Below.size hW_1; exact h9)); (obtain ⟨z0, z1, z2, f0, f1, f2, -⟩ := id NB_2.out); (have FIN := Lib.hid (PBoxQ.pre Q3.out NB_2.out hlo hgw hW_2))))
            | (go_at_call 45; ((have mark := mk_1_1); (with_reducible refine Calls.mono (AD.out _ _ _ (CWB_4.out.keep hW_1) (O_r.out.keep (Keep.refl _))) ?_); rintro e v2 ⟨vQ, rfl, hq, k2⟩; (have hW_2 : Keep (w4) v2 := Keep.trans hW_1 k2); (have hc_1_2 : Keep v1 v2 := Keep.trans (Keep.refl _) k2); (have Q_r := Lib.hid hq); clear hq; (have mk_2_10 := trivial); (have NB_2 := Lib.hid (NB_1.out.keep (hc_1_2))); obtain ⟨za, zn, zc, za', zn', zc', rfl, -⟩ := Cr.form Q_r.out; (obtain ⟨bz, hbz⟩ : ∃ b, decide (((F : Rat) + 1).num < 0) = b := ⟨_, rfl⟩); (have Q2 := Q_r.out); rw [hbz] at Q2 ⊢; (have Q3 := Lib.hid Q2); clear Q2 hbz Q_r; (have hlo : 0 ≤ w4.heap.size := Nat.zero_le _); (have hgw : (w4).heap.size ≤ w4.heap.size := (by simp)); (obtain ⟨z0, z1, z2, f0, f1, f2, -⟩ := id NB_2.out); (have FIN := Lib.hid (PBoxQ.pre Q3.out NB_2.out hlo hgw hW_2)))))
        all_goals (go_wp2_with fail; go_meet; exact FIN.out)
      case rest =>
        obtain ⟨gNX, bNX, aNX, nNX, cNX, a'NX, n'NX, c'NX, rfl, -, hbx, hcr, kx⟩ := hcut
        obtain ⟨wx6, rfl⟩ : ∃ x : World, x = wc := ⟨_, rfl⟩
        have X_5 := Lib.hid (X_4.out.keep kx)
        have Y_5 := Lib.hid (Y_4.out.keep kx)
        have B_5 := Lib.hid (B_4.out.keep kx)
        have C_5 := Lib.hid (C_4.out.keep kx)
        have R_5 := Lib.hid (R_4.out.keep kx)
        have CWB_5 := Lib.hid (CWB_4.out.keep kx)
        have WB_5 := Lib.hid (WB_4.out.keep kx)
        have NX_5 := Lib.hid hbx
        have CNX_5 := Lib.hid hcr
        have KW_5 := Lib.hid (KW_4.out.trans kx)
        clear kx X_4 Y_4 B_4 C_4 R_4 CWB_4 WB_4 hbx hcr KW_4
        obtain ⟨B_c0, B_c1, B_c2, -, -, -, -⟩ := id B_5.out
        obtain ⟨C_c0, C_c1, C_c2, -, -, -, -⟩ := id C_5.out
        obtain ⟨R_c0, R_c1, R_c2, -, -, -, -⟩ := id R_5.out
        obtain ⟨WB_c0, WB_c1, WB_c2, -, -, -, -⟩ := id WB_5.out
        obtain ⟨NX_c0, NX_c1, NX_c2, -, -, -, -⟩ := id NX_5.out
        go_wp2_with fail
        refine Calls.mono (CP2.out _ _ CNX_5.out Y_5.out) ?_
        rintro e w6 ⟨rfl, k6⟩
        clear B_c0 B_c1 B_c2 C_c0 C_c1 C_c2 R_c0 R_c1 R_c2 WB_c0 WB_c1 WB_c2 NX_c0 NX_c1 NX_c2
        have X_6 := Lib.hid (X_5.out.keep k6)
        have Y_6 := Lib.hid (Y_5.out.keep k6)
        have B_6 := Lib.hid (B_5.out.keep k6)
        have C_6 := Lib.hid (C_5.out.keep k6)
        have R_6 := Lib.hid (R_5.out.keep k6)
        have CWB_6 := Lib.hid (CWB_5.out.keep k6)
        have WB_6 := Lib.hid (WB_5.out.keep k6)
        have NX_6 := Lib.hid (NX_5.out.keep k6)
        have CNX_6 := Lib.hid (CNX_5.out.keep k6)
        have KW_6 := Lib.hid (KW_5.out.trans k6)
        clear k6 X_5 Y_5 B_5 C_5 R_5 CWB_5 WB_5 NX_5 CNX_5 KW_5
        clear CP2 AD
        have hrds := (CNX_6.out).rds
        obtain ⟨FF, -, s0, s1, s2⟩ := put_of (w0 := w) hrds.1 hrds.2.1 hrds.2.2 R_6.out KW_6.out (by omega)
        have FIN := Lib.hid FF
        obtain ⟨R_c0, R_c1, R_c2, R_f0, R_f1, R_f2, -⟩ := id R_6.out
        obtain ⟨m0, m1, m2, -⟩ := id NX_6.out
        clear FF hrds
        go_wp2
        refine bodyPost_ret (v := .agg #[.bool bNX, .slice aNX nNX cNX, .slice a'NX n'NX c'NX]) (by simp [results, Tryz.results21, go_sem, s0, s1, s2]) rfl ?_
        exact FIN.out
    · rw [if_neg hc2]
      have hcF := HFLE.out
      have hF0 := HF.out.1
      obtain ⟨hl0, hl1⟩ := HLO.out
      obtain ⟨rb1, rb2⟩ := HRB.out
      have S := SmStep.mk' hl1 hF0 HFLT.out hc2
      obtain ⟨sb1, sb2, sb3, sb4⟩ := step_rb S rfl rfl rb1 rb2 hk1
      have IS := smp_is N S.pos S.le (by have := S.low; have := HDN.out; omega)
      have sb5 := smp_rb S.pos IS S.le sb3
      have hspos : 0 < smpF N (hi - (F : Rat))⁻¹ (lo - (F : Rat))⁻¹ := by have := IS.ge; have := S.pos; grind
      have sb6 := sb5.inv hk1
      have x0 := S.x0
      have y0 := S.y0
      have IH := Lib.hid (fun w1 u v (hu : Ra w1 u (hi - (F : Rat))⁻¹ k) (hv : Ra w1 v (lo - (F : Rat))⁻¹ k) => ih hu hv S.pos S.le (by have := S.low; have := HDN.out; omega) hk1 hk)
      obtain ⟨sv, hsv⟩ : ∃ x, smpF N (hi - (F : Rat))⁻¹ (lo - (F : Rat))⁻¹ = x := ⟨_, rfl⟩
      rw [hsv] at IH sb5 sb6 hspos ⊢
      obtain ⟨dy, hdy⟩ : ∃ x, hi - (F : Rat) = x := ⟨_, rfl⟩
      obtain ⟨dx, hdx⟩ : ∃ x, lo - (F : Rat) = x := ⟨_, rfl⟩
      have one_div : ∀ x : Rat, ((1 : Int) : Rat) / x = x⁻¹ := fun x => by rw [Rat.div_def]; exact Rat.one_mul _
      have hone : Rb ((1 : Int) : Rat) k := rb_int (one_lt_BB hk1) hk1
      have SU1 := Lib.hid (fun w1 u (hu : Ra w1 u hi k) (v) (hv : Ra w1 v (F : Rat) k) => rqsub_c hu hv (by omega) hk1)
      have SU2 := Lib.hid (fun w1 u (hu : Ra w1 u lo k) (v) (hv : Ra w1 v (F : Rat) k) => rqsub_c hu hv (by omega) hk1)
      rw [hdy] at SU1 sb1 sb3 y0 IH
      rw [hdx] at SU2 sb2 sb4 x0 IH
      have DV1 := Lib.hid (fun w1 u v (hu : Cr w1 u ((1 : Int) : Rat)) (hv : Cr w1 v dy) => rqdiv_c (hu.ra hone) (hv.ra sb1) (by omega) hk1 (by grind))
      have DV2 := Lib.hid (fun w1 u v (hu : Cr w1 u ((1 : Int) : Rat)) (hv : Cr w1 v dx) => rqdiv_c (hu.ra hone) (hv.ra sb2) (by omega) hk1 (by grind))
      have DV3 := Lib.hid (fun w1 u v (hu : Cr w1 u ((1 : Int) : Rat)) (hv : Cr w1 v sv) => rqdiv_c (hu.ra hone) (hv.ra sb5) (by omega) hk1 (by grind))
      rw [one_div] at DV1 DV2 DV3
      have AD2 := Lib.hid (fun w1 u v (hu : Ra w1 u (F : Rat) k) (hv : Cr w1 v sv⁻¹) => rqadd_c hu (hv.ra sb6) (by omega) hk1)
      obtain ⟨q, hq⟩ : ∃ x, (F : Rat) + sv⁻¹ = x := ⟨_, rfl⟩
      rw [hq] at AD2 ⊢
      have SB3 := Lib.hid (And.intro sb3 sb4)
      obtain ⟨z, hz⟩ : ∃ z, rC ((F : Rat) + 1) hi = z := ⟨_, rfl⟩
      have hzd : decide (z ≤ 0) = false := decide_eq_false (by
        rw [← hz, rC_gt (Rat.not_le.1 hc2)]; decide)
      rw [hz] at CP2
      clear hz ih hc2 S sb1 sb2 sb3 sb4 IS sb5 hspos sb6 x0 y0 hsv hdy hdx one_div hone hq hcF hF0 hl0 hl1 rb1 rb2
      go_enter Tryz.func21, Tryz.ntmps21
      obtain ⟨B_c0, B_c1, B_c2, -, -, -, -⟩ := id B_0.out
      obtain ⟨C_c0, C_c1, C_c2, -, -, -, -⟩ := id C_0.out
      obtain ⟨R_c0, R_c1, R_c2, -, -, -, -⟩ := id R_0.out
      go_wp2_with fail
      refine Calls.mono (FL.out _ X_0.out) ?_
      rintro e w1 ⟨vF, rfl, hI, k1⟩
      clear B_c0 B_c1 B_c2 C_c0 C_c1 C_c2 R_c0 R_c1 R_c2
      have X_1 := Lib.hid (X_0.out.keep k1)
      have Y_1 := Lib.hid (Y_0.out.keep k1)
      have B_1 := Lib.hid (B_0.out.keep k1)
      have C_1 := Lib.hid (C_0.out.keep k1)
      have R_1 := Lib.hid (R_0.out.keep k1)
      have I_1 := Lib.hid hI
      have KW_1 := Lib.hid (KW_0.out.trans k1)
      clear k1 X_0 Y_0 B_0 C_0 R_0 hI KW_0
      obtain ⟨B_c0, B_c1, B_c2, -, -, -, -⟩ := id B_1.out
      obtain ⟨C_c0, C_c1, C_c2, -, -, -, -⟩ := id C_1.out
      obtain ⟨R_c0, R_c1, R_c2, -, -, -, -⟩ := id R_1.out
      go_wp2_with fail
      refine Calls.mono (WH.out _ _ I_1.out) ?_
      rintro e w2 ⟨vW, rfl, hW, k2⟩
      clear B_c0 B_c1 B_c2 C_c0 C_c1 C_c2 R_c0 R_c1 R_c2
      have X_2 := Lib.hid (X_1.out.keep k2)
      have Y_2 := Lib.hid (Y_1.out.keep k2)
      have B_2 := Lib.hid (B_1.out.keep k2)
      have C_2 := Lib.hid (C_1.out.keep k2)
      have R_2 := Lib.hid (R_1.out.keep k2)
      have CWB_2 := Lib.hid hW
      have KW_2 := Lib.hid (KW_1.out.trans k2)
      clear k2 I_1 X_1 Y_1 B_1 C_1 R_1 hW KW_1
      obtain ⟨wa, wn, wcc, wa', wn', wcc', rfl, -⟩ := Cr.form CWB_2.out
      have CWB_2_x := CWB_2.out
      obtain ⟨bw, hbw⟩ : ∃ b, decide ((F : Rat).num < 0) = b := ⟨_, rfl⟩
      rw [hbw] at CWB_2_x ⊢
      have CWB_2_y := Lib.hid CWB_2_x
      clear CWB_2_x hbw CWB_2
      have X_3 := Lib.hid (X_2.out.keep ((Keep.refl _).alloc (.cells #[.bool bw, .slice wa wn wcc, .slice wa' wn' wcc'] 25)))
      have Y_3 := Lib.hid (Y_2.out.keep ((Keep.refl _).alloc (.cells #[.bool bw, .slice wa wn wcc, .slice wa' wn' wcc'] 25)))
      have B_3 := Lib.hid (B_2.out.keep ((Keep.refl _).alloc (.cells #[.bool bw, .slice wa wn wcc, .slice wa' wn' wcc'] 25)))
      have C_3 := Lib.hid (C_2.out.keep ((Keep.refl _).alloc (.cells #[.bool bw, .slice wa wn wcc, .slice wa' wn' wcc'] 25)))
      have R_3 := Lib.hid (R_2.out.keep ((Keep.refl _).alloc (.cells #[.bool bw, .slice wa wn wcc, .slice wa' wn' wcc'] 25)))
      have CWB_3 := Lib.hid (CWB_2_y.out.keep ((Keep.refl _).alloc (.cells #[.bool bw, .slice wa wn wcc, .slice wa' wn' wcc'] 25)))
      have KW_3 := Lib.hid (KW_2.out.trans ((Keep.refl _).alloc (.cells #[.bool bw, .slice wa wn wcc, .slice wa' wn' wcc'] 25)))
      clear X_2 Y_2 B_2 C_2 R_2 CWB_2_y KW_2
      have WB_3 := Lib.hid (QBox.new w2 bw wa wn wcc wa' wn' wcc')
      obtain ⟨B_c0, B_c1, B_c2, -, -, -, -⟩ := id B_3.out
      obtain ⟨C_c0, C_c1, C_c2, -, -, -, -⟩ := id C_3.out
      obtain ⟨R_c0, R_c1, R_c2, -, -, -, -⟩ := id R_3.out
      obtain ⟨WB_c0, WB_c1, WB_c2, -, -, -, -⟩ := id WB_3.out
      go_wp2_with fail
      refine Calls.mono (CP.out _ _ (CWB_3.out.ra HRF.out) X_3.out) ?_
      rintro e w4 ⟨rfl, k4⟩
      clear B_c0 B_c1 B_c2 C_c0 C_c1 C_c2 R_c0 R_c1 R_c2 WB_c0 WB_c1 WB_c2
      have X_4 := Lib.hid (X_3.out.keep k4)
      have Y_4 := Lib.hid (Y_3.out.keep k4)
      have B_4 := Lib.hid (B_3.out.keep k4)
      have C_4 := Lib.hid (C_3.out.keep k4)
      have R_4 := Lib.hid (R_3.out.keep k4)
      have CWB_4 := Lib.hid (CWB_3.out.keep k4)
      have WB_4 := Lib.hid (WB_3.out.keep k4)
      have KW_4 := Lib.hid (KW_3.out.trans k4)
      clear k4 X_3 Y_3 B_3 C_3 R_3 CWB_3 WB_3 KW_3
      clear CP
      go_upto_region 4 with fail
      go_cut [6] (fun vv wc => PBoxQ w4 0 ((F : Rat) + 1) vv wc)
      case first =>
        have SK : Hid (∀ wk : World, Keep (w4) wk → wk.cell? ⟨w2.heap.size, 0, none⟩ = some (.bool bw) ∧ wk.cell? ⟨w2.heap.size, 1, none⟩ = some (.slice wa wn wcc) ∧ wk.cell? ⟨w2.heap.size, 2, none⟩ = some (.slice wa' wn' wcc')) := Lib.hid (fun wk h => ⟨(WB_4.out.keep h).c0, (WB_4.out.keep h).c1, (WB_4.out.keep h).c2⟩)
        have kS_0 : Keep (w4) (w4.drew) := (Keep.refl _).drew
        have kS_1 : Keep (w4) ((w4.alloc (.cells #[.bool false, .slice none 0 0, .slice none 0 0] 25)).drew) := ((Keep.alloc (Keep.refl _) _)).drew
        obtain ⟨cz_0, cz_1, cz_2⟩ := SK.out _ kS_0
        go_wp2
        go_region_held3 (fun w' => w'.cell? ⟨w2.heap.size, 0, none⟩ = some (.bool bw) ∧ w'.cell? ⟨w2.heap.size, 1, none⟩ = some (.slice wa wn wcc) ∧ w'.cell? ⟨w2.heap.size, 2, none⟩ = some (.slice wa' wn' wcc')) (first | with_reducible exact SK.out _ kS_0 | with_reducible exact SK.out _ kS_1 | with_reducible exact SK.out _ hW_1 | with_reducible exact SK.out _ (Keep.alloc hW_1 _) | with_reducible exact SK.out _ hW_2 | with_reducible exact SK.out _ (Keep.alloc hW_2 _) | (refine SK.out _ ?_; (repeat' (first | exact Keep.refl _ | assumption | refine Keep.alloc ?_ _ | refine Keep.drew ?_ | refine keep_set ?_ (by first | exact Nat.le_refl _ | assumption | (simp <;> omega)) _ | (refine Keep.trans ?_ (by assumption))))) | go_keep)
          (first
            | (go_at_call 46; ((with_reducible refine Calls.mono (OF1.out _) ?_); rintro e v1 ⟨vO, rfl, hO, k1⟩; (have hW_1 : Keep (w4) v1 := Keep.trans kS_0 k1); (have O_r := Lib.hid hO); clear hO; (have mk_1_0 := trivial)))
            | (go_at_call 46; ((with_reducible refine Calls.mono (OF1.out _) ?_); rintro e v1 ⟨vO, rfl, hO, k1⟩; (have hW_1 : Keep (w4) v1 := Keep.trans kS_1 k1); (have O_r := Lib.hid hO); clear hO; (have mk_1_1 := trivial); (have NB_1 := Lib.hid (((QBox.new w4 false none 0 0 none 0 0).at (g' := w4.heap.size) (by first | rfl | simp)).keep (show Keep ((w4.alloc (.cells #[.bool false, .slice none 0 0, .slice none 0 0] 25))) v1 from Keep.trans (Keep.drew (Keep.refl _)) k1)))))
            | (go_at_call 45; ((have mark := mk_1_0); (with_reducible refine Calls.mono (AD.out _ _ _ (CWB_4.out.keep hW_1) (O_r.out.keep (Keep.refl _))) ?_); rintro e v2 ⟨vQ, rfl, hq, k2⟩; (have hW_2 : Keep (w4) v2 := Keep.trans hW_1 k2); (have hc_1_2 : Keep v1 v2 := Keep.trans (Keep.refl _) k2); (have Q_r := Lib.hid hq); clear hq; (have mk_2_00 := trivial); obtain ⟨za, zn, zc, za', zn', zc', rfl, -⟩ := Cr.form Q_r.out; (obtain ⟨bz, hbz⟩ : ∃ b, decide (((F : Rat) + 1).num < 0) = b := ⟨_, rfl⟩); (have Q2 := Q_r.out); rw [hbz] at Q2 ⊢; (have Q3 := Lib.hid Q2); clear Q2 hbz Q_r; (have hlo : 0 ≤ v2.heap.size := Nat.zero_le _); (have FIN := Lib.hid (PBoxQ.post Q3.out hlo hW_2))))
            | (go_at_call 45; ((have mark := mk_1_0); (with_reducible refine Calls.mono (AD.out _ _ _ (CWB_4.out.keep (Keep.alloc hW_1 _)) (O_r.out.keep (Keep.alloc (Keep.refl _) _))) ?_); rintro e v2 ⟨vQ, rfl, hq, k2⟩; (have hW_2 : Keep (w4) v2 := Keep.trans (Keep.alloc hW_1 _) k2); (have hc_1_2 : Keep v1 v2 := Keep.trans (Keep.alloc (Keep.refl _) _) k2); (have Q_r := Lib.hid hq); clear hq; (have mk_2_01 := trivial); (have NB_2 := Lib.hid (((QBox.new v1 false none 0 0 none 0 0).at (g' := v1.heap.size) (by first | rfl | simp)).keep (show Keep ((v1.alloc (.cells #[.bool false, .slice none 0 0, .slice none 0 0] 25))) v2 from Keep.trans (Keep.refl _) k2))); obtain ⟨za, zn, zc, za', zn', zc', rfl, -⟩ := Cr.form Q_r.out; (obtain ⟨bz, hbz⟩ : ∃ b, decide (((F : Rat) + 1).num < 0) = b := ⟨_, rfl⟩); (have Q2 := Q_r.out); rw [hbz] at Q2 ⊢; (have Q3 := Lib.hid Q2); clear Q2 hbz Q_r; (have hlo : 0 ≤ v1.heap.size := Nat.zero_le _); (have hgw : (w4).heap.size ≤ v1.heap.size := (by have h9 := Below.size hW_1; exact h9)); (obtain ⟨z0, z1, z2, f0, f1, f2, -⟩ := id NB_2.out); (have FIN := Lib.hid (PBoxQ.pre Q3.out NB_2.out hlo hgw hW_2))))
            | (go_at_call 45; ((have mark := mk_1_1); (with_reducible refine Calls.mono (AD.out _ _ _ (CWB_4.out.keep hW_1) (O_r.out.keep (Keep.refl _))) ?_); rintro e v2 ⟨vQ, rfl, hq, k2⟩; (have hW_2 : Keep (w4) v2 := Keep.trans hW_1 k2); (have hc_1_2 : Keep v1 v2 := Keep.trans (Keep.refl _) k2); (have Q_r := Lib.hid hq); clear hq; (have mk_2_10 := trivial); (have NB_2 := Lib.hid (NB_1.out.keep (hc_1_2))); obtain ⟨za, zn, zc, za', zn', zc', rfl, -⟩ := Cr.form Q_r.out; (obtain ⟨bz, hbz⟩ : ∃ b, decide (((F : Rat) + 1).num < 0) = b := ⟨_, rfl⟩); (have Q2 := Q_r.out); rw [hbz] at Q2 ⊢; (have Q3 := Lib.hid Q2); clear Q2 hbz Q_r; (have hlo : 0 ≤ w4.heap.size := Nat.zero_le _); (have hgw : (w4).heap.size ≤ w4.heap.size := (by simp)); (obtain ⟨z0, z1, z2, f0, f1, f2, -⟩ := id NB_2.out); (have FIN := Lib.hid (PBoxQ.pre Q3.out NB_2.out hlo hgw hW_2)))))
        all_goals (go_wp2_with fail; go_meet; exact FIN.out)
      case rest =>
        obtain ⟨gNX, bNX, aNX, nNX, cNX, a'NX, n'NX, c'NX, rfl, -, hbx, hcr, kx⟩ := hcut
        obtain ⟨wx6, rfl⟩ : ∃ x : World, x = wc := ⟨_, rfl⟩
        have X_5 := Lib.hid (X_4.out.keep kx)
        have Y_5 := Lib.hid (Y_4.out.keep kx)
        have B_5 := Lib.hid (B_4.out.keep kx)
        have C_5 := Lib.hid (C_4.out.keep kx)
        have R_5 := Lib.hid (R_4.out.keep kx)
        have CWB_5 := Lib.hid (CWB_4.out.keep kx)
        have WB_5 := Lib.hid (WB_4.out.keep kx)
        have NX_5 := Lib.hid hbx
        have CNX_5 := Lib.hid hcr
        have KW_5 := Lib.hid (KW_4.out.trans kx)
        clear kx X_4 Y_4 B_4 C_4 R_4 CWB_4 WB_4 hbx hcr KW_4
        obtain ⟨B_c0, B_c1, B_c2, -, -, -, -⟩ := id B_5.out
        obtain ⟨C_c0, C_c1, C_c2, -, -, -, -⟩ := id C_5.out
        obtain ⟨R_c0, R_c1, R_c2, -, -, -, -⟩ := id R_5.out
        obtain ⟨WB_c0, WB_c1, WB_c2, -, -, -, -⟩ := id WB_5.out
        obtain ⟨NX_c0, NX_c1, NX_c2, -, -, -, -⟩ := id NX_5.out
        go_wp2_with fail
        refine Calls.mono (CP2.out _ _ CNX_5.out Y_5.out) ?_
        rintro e w6 ⟨rfl, k6⟩
        clear B_c0 B_c1 B_c2 C_c0 C_c1 C_c2 R_c0 R_c1 R_c2 WB_c0 WB_c1 WB_c2 NX_c0 NX_c1 NX_c2
        have X_6 := Lib.hid (X_5.out.keep k6)
        have Y_6 := Lib.hid (Y_5.out.keep k6)
        have B_6 := Lib.hid (B_5.out.keep k6)
        have C_6 := Lib.hid (C_5.out.keep k6)
        have R_6 := Lib.hid (R_5.out.keep k6)
        have CWB_6 := Lib.hid (CWB_5.out.keep k6)
        have WB_6 := Lib.hid (WB_5.out.keep k6)
        have NX_6 := Lib.hid (NX_5.out.keep k6)
        have CNX_6 := Lib.hid (CNX_5.out.keep k6)
        have KW_6 := Lib.hid (KW_5.out.trans k6)
        clear k6 X_5 Y_5 B_5 C_5 R_5 CWB_5 WB_5 NX_5 CNX_5 KW_5
        clear CP2 AD
        clear NX_6 CNX_6
        go_upto_region 7 with fail
        go_cut [7] (fun vv wc => PBoxQ w6 0 (dy⁻¹) vv wc)
        case first =>
          have SK : Hid (∀ wk : World, Keep (w6) wk → wk.cell? ⟨w.heap.size + 1, 0, none⟩ = some (.bool t) ∧ wk.cell? ⟨w.heap.size + 1, 1, none⟩ = some (.slice b m g) ∧ wk.cell? ⟨w.heap.size + 1, 2, none⟩ = some (.slice b' m' g') ∧ wk.cell? ⟨w2.heap.size, 0, none⟩ = some (.bool bw) ∧ wk.cell? ⟨w2.heap.size, 1, none⟩ = some (.slice wa wn wcc) ∧ wk.cell? ⟨w2.heap.size, 2, none⟩ = some (.slice wa' wn' wcc')) := Lib.hid (fun wk h => ⟨(C_6.out.keep h).c0, (C_6.out.keep h).c1, (C_6.out.keep h).c2, (WB_6.out.keep h).c0, (WB_6.out.keep h).c1, (WB_6.out.keep h).c2⟩)
          have kS_0 : Keep (w6) (w6.drew) := (Keep.refl _).drew
          have kS_1 : Keep (w6) ((w6.alloc (.cells #[.bool false, .slice none 0 0, .slice none 0 0] 25)).drew) := ((Keep.alloc (Keep.refl _) _)).drew
          obtain ⟨cz_0, cz_1, cz_2, cz_3, cz_4, cz_5⟩ := SK.out _ kS_0
          go_wp2
          go_region_held3 (fun w' => w'.cell? ⟨w.heap.size + 1, 0, none⟩ = some (.bool t) ∧ w'.cell? ⟨w.heap.size + 1, 1, none⟩ = some (.slice b m g) ∧ w'.cell? ⟨w.heap.size + 1, 2, none⟩ = some (.slice b' m' g') ∧ w'.cell? ⟨w2.heap.size, 0, none⟩ = some (.bool bw) ∧ w'.cell? ⟨w2.heap.size, 1, none⟩ = some (.slice wa wn wcc) ∧ w'.cell? ⟨w2.heap.size, 2, none⟩ = some (.slice wa' wn' wcc')) (first | with_reducible exact SK.out _ kS_0 | with_reducible exact SK.out _ kS_1 | with_reducible exact SK.out _ hW_1 | with_reducible exact SK.out _ (Keep.alloc hW_1 _) | with_reducible exact SK.out _ hW_2 | with_reducible exact SK.out _ (Keep.alloc hW_2 _) | with_reducible exact SK.out _ hW_3 | with_reducible exact SK.out _ (Keep.alloc hW_3 _) | (refine SK.out _ ?_; (repeat' (first | exact Keep.refl _ | assumption | refine Keep.alloc ?_ _ | refine Keep.drew ?_ | refine keep_set ?_ (by first | exact Nat.le_refl _ | assumption | (simp <;> omega)) _ | (refine Keep.trans ?_ (by assumption))))) | go_keep)
            (first
              | (go_at_call 46; ((with_reducible refine Calls.mono (OF1.out _) ?_); rintro e v1 ⟨vO, rfl, hO, k1⟩; (have hW_1 : Keep (w6) v1 := Keep.trans kS_0 k1); (have O_r := Lib.hid hO); clear hO; (have mk_1_0 := trivial)))
              | (go_at_call 46; ((with_reducible refine Calls.mono (OF1.out _) ?_); rintro e v1 ⟨vO, rfl, hO, k1⟩; (have hW_1 : Keep (w6) v1 := Keep.trans kS_1 k1); (have O_r := Lib.hid hO); clear hO; (have mk_1_1 := trivial); (have NB_1 := Lib.hid (((QBox.new w6 false none 0 0 none 0 0).at (g' := w6.heap.size) (by first | rfl | simp)).keep (show Keep ((w6.alloc (.cells #[.bool false, .slice none 0 0, .slice none 0 0] 25))) v1 from Keep.trans (Keep.drew (Keep.refl _)) k1)))))
              | (go_at_call 40; ((have mark := mk_1_0); (with_reducible refine Calls.mono (SU1.out _ _ (Y_6.out.keep hW_1) _ ((CWB_6.out.keep hW_1).ra HRF.out)) ?_); rintro e v2 ⟨vS, rfl, hS, k2⟩; (have hW_2 : Keep (w6) v2 := Keep.trans hW_1 k2); (have hc_1_2 : Keep v1 v2 := Keep.trans (Keep.refl _) k2); (have S_r := Lib.hid hS); clear hS; (have mk_2_00 := trivial)))
              | (go_at_call 40; ((have mark := mk_1_0); (with_reducible refine Calls.mono (SU1.out _ _ (Y_6.out.keep (Keep.alloc hW_1 _)) _ ((CWB_6.out.keep (Keep.alloc hW_1 _)).ra HRF.out)) ?_); rintro e v2 ⟨vS, rfl, hS, k2⟩; (have hW_2 : Keep (w6) v2 := Keep.trans (Keep.alloc hW_1 _) k2); (have hc_1_2 : Keep v1 v2 := Keep.trans (Keep.alloc (Keep.refl _) _) k2); (have S_r := Lib.hid hS); clear hS; (have mk_2_01 := trivial); (have NB_2 := Lib.hid (((QBox.new v1 false none 0 0 none 0 0).at (g' := v1.heap.size) (by first | rfl | simp)).keep (show Keep ((v1.alloc (.cells #[.bool false, .slice none 0 0, .slice none 0 0] 25))) v2 from Keep.trans (Keep.refl _) k2)))))
              | (go_at_call 40; ((have mark := mk_1_1); (with_reducible refine Calls.mono (SU1.out _ _ (Y_6.out.keep hW_1) _ ((CWB_6.out.keep hW_1).ra HRF.out)) ?_); rintro e v2 ⟨vS, rfl, hS, k2⟩; (have hW_2 : Keep (w6) v2 := Keep.trans hW_1 k2); (have hc_1_2 : Keep v1 v2 := Keep.trans (Keep.refl _) k2); (have S_r := Lib.hid hS); clear hS; (have mk_2_10 := trivial); (have NB_2 := Lib.hid (NB_1.out.keep (hc_1_2)))))
              | (go_at_call 47; ((have mark := mk_2_00); (with_reducible refine Calls.mono (DV1.out _ _ _ (O_r.out.keep hc_1_2) (S_r.out.keep (Keep.refl _))) ?_); rintro e v3 ⟨vQ, rfl, hq, k3⟩; (have hW_3 : Keep (w6) v3 := Keep.trans hW_2 k3); (have hc_1_3 : Keep v1 v3 := Keep.trans hc_1_2 k3); (have hc_2_3 : Keep v2 v3 := Keep.trans (Keep.refl _) k3); (have Q_r := Lib.hid hq); clear hq; (have mk_3_000 := trivial); obtain ⟨za, zn, zc, za', zn', zc', rfl, -⟩ := Cr.form Q_r.out; (obtain ⟨bz, hbz⟩ : ∃ b, decide ((dy⁻¹).num < 0) = b := ⟨_, rfl⟩); (have Q2 := Q_r.out); rw [hbz] at Q2 ⊢; (have Q3 := Lib.hid Q2); clear Q2 hbz Q_r; (have hlo : 0 ≤ v3.heap.size := Nat.zero_le _); (have FIN := Lib.hid (PBoxQ.post Q3.out hlo hW_3))))
              | (go_at_call 47; ((have mark := mk_2_00); (with_reducible refine Calls.mono (DV1.out _ _ _ (O_r.out.keep (Keep.alloc hc_1_2 _)) (S_r.out.keep (Keep.alloc (Keep.refl _) _))) ?_); rintro e v3 ⟨vQ, rfl, hq, k3⟩; (have hW_3 : Keep (w6) v3 := Keep.trans (Keep.alloc hW_2 _) k3); (have hc_1_3 : Keep v1 v3 := Keep.trans (Keep.alloc hc_1_2 _) k3); (have hc_2_3 : Keep v2 v3 := Keep.trans (Keep.alloc (Keep.refl _) _) k3); (have Q_r := Lib.hid hq); clear hq; (have mk_3_001 := trivial); (have NB_3 := Lib.hid (((QBox.new v2 false none 0 0 none 0 0).at (g' := v2.heap.size) (by first | rfl | simp)).keep (show Keep ((v2.alloc (.cells #[.bool false, .slice none 0 0, .slice none 0 0] 25))) v3 from Keep.trans (Keep.refl _) k3))); obtain ⟨za, zn, zc, za', zn', zc', rfl, -⟩ := Cr.form Q_r.out; (obtain ⟨bz, hbz⟩ : ∃ b, decide ((dy⁻¹).num < 0) = b := ⟨_, rfl⟩); (have Q2 := Q_r.out); rw [hbz] at Q2 ⊢; (have Q3 := Lib.hid Q2); clear Q2 hbz Q_r; (have hlo : 0 ≤ v2.heap.size := Nat.zero_le _); (have hgw : (w6).heap.size ≤ v2.heap.size := (by have h9 := Below.size hW_2; exact h9)); (obtain ⟨z0, z1, z2, f0, f1, f2, -⟩ := id NB_3.out); (have FIN := Lib.hid (PBoxQ.pre Q3.out NB_3.out hlo hgw hW_3))))
              | (go_at_call 47; ((have mark := mk_2_01); (with_reducible refine Calls.mono (DV1.out _ _ _ (O_r.out.keep hc_1_2) (S_r.out.keep (Keep.refl _))) ?_); rintro e v3 ⟨vQ, rfl, hq, k3⟩; (have hW_3 : Keep (w6) v3 := Keep.trans hW_2 k3); (have hc_1_3 : Keep v1 v3 := Keep.trans hc_1_2 k3); (have hc_2_3 : Keep v2 v3 := Keep.trans (Keep.refl _) k3); (have Q_r := Lib.hid hq); clear hq; (have mk_3_010 := trivial); (have NB_3 := Lib.hid (NB_2.out.keep (hc_2_3))); obtain ⟨za, zn, zc, za', zn', zc', rfl, -⟩ := Cr.form Q_r.out; (obtain ⟨bz, hbz⟩ : ∃ b, decide ((dy⁻¹).num < 0) = b := ⟨_, rfl⟩); (have Q2 := Q_r.out); rw [hbz] at Q2 ⊢; (have Q3 := Lib.hid Q2); clear Q2 hbz Q_r; (have hlo : 0 ≤ v1.heap.size := Nat.zero_le _); (have hgw : (w6).heap.size ≤ v1.heap.size := (by have h9 := Below.size hW_1; exact h9)); (obtain ⟨z0, z1, z2, f0, f1, f2, -⟩ := id NB_3.out); (have FIN := Lib.hid (PBoxQ.pre Q3.out NB_3.out hlo hgw hW_3))))
              | (go_at_call 47; ((have mark := mk_2_10); (with_reducible refine Calls.mono (DV1.out _ _ _ (O_r.out.keep hc_1_2) (S_r.out.keep (Keep.refl _))) ?_); rintro e v3 ⟨vQ, rfl, hq, k3⟩; (have hW_3 : Keep (w6) v3 := Keep.trans hW_2 k3); (have hc_1_3 : Keep v1 v3 := Keep.trans hc_1_2 k3); (have hc_2_3 : Keep v2 v3 := Keep.trans (Keep.refl _) k3); (have Q_r := Lib.hid hq); clear hq; (have mk_3_100 := trivial); (have NB_3 := Lib.hid (NB_2.out.keep (hc_2_3))); obtain ⟨za, zn, zc, za', zn', zc', rfl, -⟩ := Cr.form Q_r.out; (obtain ⟨bz, hbz⟩ : ∃ b, decide ((dy⁻¹).num < 0) = b := ⟨_, rfl⟩); (have Q2 := Q_r.out); rw [hbz] at Q2 ⊢; (have Q3 := Lib.hid Q2); clear Q2 hbz Q_r; (have hlo : 0 ≤ w6.heap.size := Nat.zero_le _); (have hgw : (w6).heap.size ≤ w6.heap.size := (by simp)); (obtain ⟨z0, z1, z2, f0, f1, f2, -⟩ := id NB_3.out); (have FIN := Lib.hid (PBoxQ.pre Q3.out NB_3.out hlo hgw hW_3)))))
          all_goals (go_wp2_with fail; go_meet; exact FIN.out)
        case rest =>
          obtain ⟨gLB, bLB, aLB, nLB, cLB, a'LB, n'LB, c'LB, rfl, -, hbx, hcr, kx⟩ := hcut
          obtain ⟨wx7, rfl⟩ : ∃ x : World, x = wc := ⟨_, rfl⟩
          have X_7 := Lib.hid (X_6.out.keep kx)
          have Y_7 := Lib.hid (Y_6.out.keep kx)
          have B_7 := Lib.hid (B_6.out.keep kx)
          have C_7 := Lib.hid (C_6.out.keep kx)
          have R_7 := Lib.hid (R_6.out.keep kx)
          have CWB_7 := Lib.hid (CWB_6.out.keep kx)
          have WB_7 := Lib.hid (WB_6.out.keep kx)
          have LB_7 := Lib.hid hbx
          have CLB_7 := Lib.hid hcr
          have KW_7 := Lib.hid (KW_6.out.trans kx)
          clear kx X_6 Y_6 B_6 C_6 R_6 CWB_6 WB_6 hbx hcr KW_6
          go_upto_region 8 with fail
          go_cut [9] (fun vv wc => PBoxQ wx7 0 (dx⁻¹) vv wc)
          case first =>
            have SK : Hid (∀ wk : World, Keep (wx7) wk → wk.cell? ⟨w.heap.size, 0, none⟩ = some (.bool s) ∧ wk.cell? ⟨w.heap.size, 1, none⟩ = some (.slice a n c) ∧ wk.cell? ⟨w.heap.size, 2, none⟩ = some (.slice a' n' c') ∧ wk.cell? ⟨w2.heap.size, 0, none⟩ = some (.bool bw) ∧ wk.cell? ⟨w2.heap.size, 1, none⟩ = some (.slice wa wn wcc) ∧ wk.cell? ⟨w2.heap.size, 2, none⟩ = some (.slice wa' wn' wcc')) := Lib.hid (fun wk h => ⟨(B_7.out.keep h).c0, (B_7.out.keep h).c1, (B_7.out.keep h).c2, (WB_7.out.keep h).c0, (WB_7.out.keep h).c1, (WB_7.out.keep h).c2⟩)
            have kS_0 : Keep (wx7) (wx7.drew) := (Keep.refl _).drew
            have kS_1 : Keep (wx7) ((wx7.alloc (.cells #[.bool false, .slice none 0 0, .slice none 0 0] 25)).drew) := ((Keep.alloc (Keep.refl _) _)).drew
            obtain ⟨cz_0, cz_1, cz_2, cz_3, cz_4, cz_5⟩ := SK.out _ kS_0
            go_wp2
            go_region_held3 (fun w' => w'.cell? ⟨w.heap.size, 0, none⟩ = some (.bool s) ∧ w'.cell? ⟨w.heap.size, 1, none⟩ = some (.slice a n c) ∧ w'.cell? ⟨w.heap.size, 2, none⟩ = some (.slice a' n' c') ∧ w'.cell? ⟨w2.heap.size, 0, none⟩ = some (.bool bw) ∧ w'.cell? ⟨w2.heap.size, 1, none⟩ = some (.slice wa wn wcc) ∧ w'.cell? ⟨w2.heap.size, 2, none⟩ = some (.slice wa' wn' wcc')) (first | with_reducible exact SK.out _ kS_0 | with_reducible exact SK.out _ kS_1 | with_reducible exact SK.out _ hW_1 | with_reducible exact SK.out _ (Keep.alloc hW_1 _) | with_reducible exact SK.out _ hW_2 | with_reducible exact SK.out _ (Keep.alloc hW_2 _) | with_reducible exact SK.out _ hW_3 | with_reducible exact SK.out _ (Keep.alloc hW_3 _) | (refine SK.out _ ?_; (repeat' (first | exact Keep.refl _ | assumption | refine Keep.alloc ?_ _ | refine Keep.drew ?_ | refine keep_set ?_ (by first | exact Nat.le_refl _ | assumption | (simp <;> omega)) _ | (refine Keep.trans ?_ (by assumption))))) | go_keep)
              (first
                | (go_at_call 46; ((with_reducible refine Calls.mono (OF1.out _) ?_); rintro e v1 ⟨vO, rfl, hO, k1⟩; (have hW_1 : Keep (wx7) v1 := Keep.trans kS_0 k1); (have O_r := Lib.hid hO); clear hO; (have mk_1_0 := trivial)))
                | (go_at_call 46; ((with_reducible refine Calls.mono (OF1.out _) ?_); rintro e v1 ⟨vO, rfl, hO, k1⟩; (have hW_1 : Keep (wx7) v1 := Keep.trans kS_1 k1); (have O_r := Lib.hid hO); clear hO; (have mk_1_1 := trivial); (have NB_1 := Lib.hid (((QBox.new wx7 false none 0 0 none 0 0).at (g' := wx7.heap.size) (by first | rfl | simp)).keep (show Keep ((wx7.alloc (.cells #[.bool false, .slice none 0 0, .slice none 0 0] 25))) v1 from Keep.trans (Keep.drew (Keep.refl _)) k1)))))
                | (go_at_call 40; ((have mark := mk_1_0); (with_reducible refine Calls.mono (SU2.out _ _ (X_7.out.keep hW_1) _ ((CWB_7.out.keep hW_1).ra HRF.out)) ?_); rintro e v2 ⟨vS, rfl, hS, k2⟩; (have hW_2 : Keep (wx7) v2 := Keep.trans hW_1 k2); (have hc_1_2 : Keep v1 v2 := Keep.trans (Keep.refl _) k2); (have S_r := Lib.hid hS); clear hS; (have mk_2_00 := trivial)))
                | (go_at_call 40; ((have mark := mk_1_0); (with_reducible refine Calls.mono (SU2.out _ _ (X_7.out.keep (Keep.alloc hW_1 _)) _ ((CWB_7.out.keep (Keep.alloc hW_1 _)).ra HRF.out)) ?_); rintro e v2 ⟨vS, rfl, hS, k2⟩; (have hW_2 : Keep (wx7) v2 := Keep.trans (Keep.alloc hW_1 _) k2); (have hc_1_2 : Keep v1 v2 := Keep.trans (Keep.alloc (Keep.refl _) _) k2); (have S_r := Lib.hid hS); clear hS; (have mk_2_01 := trivial); (have NB_2 := Lib.hid (((QBox.new v1 false none 0 0 none 0 0).at (g' := v1.heap.size) (by first | rfl | simp)).keep (show Keep ((v1.alloc (.cells #[.bool false, .slice none 0 0, .slice none 0 0] 25))) v2 from Keep.trans (Keep.refl _) k2)))))
                | (go_at_call 40; ((have mark := mk_1_1); (with_reducible refine Calls.mono (SU2.out _ _ (X_7.out.keep hW_1) _ ((CWB_7.out.keep hW_1).ra HRF.out)) ?_); rintro e v2 ⟨vS, rfl, hS, k2⟩; (have hW_2 : Keep (wx7) v2 := Keep.trans hW_1 k2); (have hc_1_2 : Keep v1 v2 := Keep.trans (Keep.refl _) k2); (have S_r := Lib.hid hS); clear hS; (have mk_2_10 := trivial); (have NB_2 := Lib.hid (NB_1.out.keep (hc_1_2)))))
                | (go_at_call 47; ((have mark := mk_2_00); (with_reducible refine Calls.mono (DV2.out _ _ _ (O_r.out.keep hc_1_2) (S_r.out.keep (Keep.refl _))) ?_); rintro e v3 ⟨vQ, rfl, hq, k3⟩; (have hW_3 : Keep (wx7) v3 := Keep.trans hW_2 k3); (have hc_1_3 : Keep v1 v3 := Keep.trans hc_1_2 k3); (have hc_2_3 : Keep v2 v3 := Keep.trans (Keep.refl _) k3); (have Q_r := Lib.hid hq); clear hq; (have mk_3_000 := trivial); obtain ⟨za, zn, zc, za', zn', zc', rfl, -⟩ := Cr.form Q_r.out; (obtain ⟨bz, hbz⟩ : ∃ b, decide ((dx⁻¹).num < 0) = b := ⟨_, rfl⟩); (have Q2 := Q_r.out); rw [hbz] at Q2 ⊢; (have Q3 := Lib.hid Q2); clear Q2 hbz Q_r; (have hlo : 0 ≤ v3.heap.size := Nat.zero_le _); (have FIN := Lib.hid (PBoxQ.post Q3.out hlo hW_3))))
                | (go_at_call 47; ((have mark := mk_2_00); (with_reducible refine Calls.mono (DV2.out _ _ _ (O_r.out.keep (Keep.alloc hc_1_2 _)) (S_r.out.keep (Keep.alloc (Keep.refl _) _))) ?_); rintro e v3 ⟨vQ, rfl, hq, k3⟩; (have hW_3 : Keep (wx7) v3 := Keep.trans (Keep.alloc hW_2 _) k3); (have hc_1_3 : Keep v1 v3 := Keep.trans (Keep.alloc hc_1_2 _) k3); (have hc_2_3 : Keep v2 v3 := Keep.trans (Keep.alloc (Keep.refl _) _) k3); (have Q_r := Lib.hid hq); clear hq; (have mk_3_001 := trivial); (have NB_3 := Lib.hid (((QBox.new v2 false none 0 0 none 0 0).at (g' := v2.heap.size) (by first | rfl | simp)).keep (show Keep ((v2.alloc (.cells #[.bool false, .slice none 0 0, .slice none 0 0] 25))) v3 from Keep.trans (Keep.refl _) k3))); obtain ⟨za, zn, zc, za', zn', zc', rfl, -⟩ := Cr.form Q_r.out; (obtain ⟨bz, hbz⟩ : ∃ b, decide ((dx⁻¹).num < 0) = b := ⟨_, rfl⟩); (have Q2 := Q_r.out); rw [hbz] at Q2 ⊢; (have Q3 := Lib.hid Q2); clear Q2 hbz Q_r; (have hlo : 0 ≤ v2.heap.size := Nat.zero_le _); (have hgw : (wx7).heap.size ≤ v2.heap.size := (by have h9 := Below.size hW_2; exact h9)); (obtain ⟨z0, z1, z2, f0, f1, f2, -⟩ := id NB_3.out); (have FIN := Lib.hid (PBoxQ.pre Q3.out NB_3.out hlo hgw hW_3))))
                | (go_at_call 47; ((have mark := mk_2_01); (with_reducible refine Calls.mono (DV2.out _ _ _ (O_r.out.keep hc_1_2) (S_r.out.keep (Keep.refl _))) ?_); rintro e v3 ⟨vQ, rfl, hq, k3⟩; (have hW_3 : Keep (wx7) v3 := Keep.trans hW_2 k3); (have hc_1_3 : Keep v1 v3 := Keep.trans hc_1_2 k3); (have hc_2_3 : Keep v2 v3 := Keep.trans (Keep.refl _) k3); (have Q_r := Lib.hid hq); clear hq; (have mk_3_010 := trivial); (have NB_3 := Lib.hid (NB_2.out.keep (hc_2_3))); obtain ⟨za, zn, zc, za', zn', zc', rfl, -⟩ := Cr.form Q_r.out; (obtain ⟨bz, hbz⟩ : ∃ b, decide ((dx⁻¹).num < 0) = b := ⟨_, rfl⟩); (have Q2 := Q_r.out); rw [hbz] at Q2 ⊢; (have Q3 := Lib.hid Q2); clear Q2 hbz Q_r; (have hlo : 0 ≤ v1.heap.size := Nat.zero_le _); (have hgw : (wx7).heap.size ≤ v1.heap.size := (by have h9 := Below.size hW_1; exact h9)); (obtain ⟨z0, z1, z2, f0, f1, f2, -⟩ := id NB_3.out); (have FIN := Lib.hid (PBoxQ.pre Q3.out NB_3.out hlo hgw hW_3))))
                | (go_at_call 47; ((have mark := mk_2_10); (with_reducible refine Calls.mono (DV2.out _ _ _ (O_r.out.keep hc_1_2) (S_r.out.keep (Keep.refl _))) ?_); rintro e v3 ⟨vQ, rfl, hq, k3⟩; (have hW_3 : Keep (wx7) v3 := Keep.trans hW_2 k3); (have hc_1_3 : Keep v1 v3 := Keep.trans hc_1_2 k3); (have hc_2_3 : Keep v2 v3 := Keep.trans (Keep.refl _) k3); (have Q_r := Lib.hid hq); clear hq; (have mk_3_100 := trivial); (have NB_3 := Lib.hid (NB_2.out.keep (hc_2_3))); obtain ⟨za, zn, zc, za', zn', zc', rfl, -⟩ := Cr.form Q_r.out; (obtain ⟨bz, hbz⟩ : ∃ b, decide ((dx⁻¹).num < 0) = b := ⟨_, rfl⟩); (have Q2 := Q_r.out); rw [hbz] at Q2 ⊢; (have Q3 := Lib.hid Q2); clear Q2 hbz Q_r; (have hlo : 0 ≤ wx7.heap.size := Nat.zero_le _); (have hgw : (wx7).heap.size ≤ wx7.heap.size := (by simp)); (obtain ⟨z0, z1, z2, f0, f1, f2, -⟩ := id NB_3.out); (have FIN := Lib.hid (PBoxQ.pre Q3.out NB_3.out hlo hgw hW_3)))))
            all_goals (go_wp2_with fail; go_meet; exact FIN.out)
          case rest =>
            obtain ⟨gHB, bHB, aHB, nHB, cHB, a'HB, n'HB, c'HB, rfl, -, hbx, hcr, kx⟩ := hcut
            obtain ⟨wx9, rfl⟩ : ∃ x : World, x = wc := ⟨_, rfl⟩
            have X_8 := Lib.hid (X_7.out.keep kx)
            have Y_8 := Lib.hid (Y_7.out.keep kx)
            have B_8 := Lib.hid (B_7.out.keep kx)
            have C_8 := Lib.hid (C_7.out.keep kx)
            have R_8 := Lib.hid (R_7.out.keep kx)
            have CWB_8 := Lib.hid (CWB_7.out.keep kx)
            have WB_8 := Lib.hid (WB_7.out.keep kx)
            have LB_8 := Lib.hid (LB_7.out.keep kx)
            have CLB_8 := Lib.hid (CLB_7.out.keep kx)
            have HB_8 := Lib.hid hbx
            have CHB_8 := Lib.hid hcr
            have KW_8 := Lib.hid (KW_7.out.trans kx)
            clear kx X_7 Y_7 B_7 C_7 R_7 CWB_7 WB_7 LB_7 CLB_7 hbx hcr KW_7
            go_upto_region 9 with fail
            go_cut [11] (fun vv wc => PBoxQ wx9 0 (sv⁻¹) vv wc)
            case first =>
              have SK : Hid (∀ wk : World, Keep (wx9) wk → wk.cell? ⟨gLB, 0, none⟩ = some (.bool bLB) ∧ wk.cell? ⟨gLB, 1, none⟩ = some (.slice aLB nLB cLB) ∧ wk.cell? ⟨gLB, 2, none⟩ = some (.slice a'LB n'LB c'LB) ∧ wk.cell? ⟨gHB, 0, none⟩ = some (.bool bHB) ∧ wk.cell? ⟨gHB, 1, none⟩ = some (.slice aHB nHB cHB) ∧ wk.cell? ⟨gHB, 2, none⟩ = some (.slice a'HB n'HB c'HB)) := Lib.hid (fun wk h => ⟨(LB_8.out.keep h).c0, (LB_8.out.keep h).c1, (LB_8.out.keep h).c2, (HB_8.out.keep h).c0, (HB_8.out.keep h).c1, (HB_8.out.keep h).c2⟩)
              have kS_0 : Keep (wx9) (wx9.drew) := (Keep.refl _).drew
              have kS_1 : Keep (wx9) ((wx9.alloc (.cells #[.bool false, .slice none 0 0, .slice none 0 0] 25)).drew) := ((Keep.alloc (Keep.refl _) _)).drew
              obtain ⟨cz_0, cz_1, cz_2, cz_3, cz_4, cz_5⟩ := SK.out _ kS_0
              go_wp2
              go_region_held3 (fun w' => w'.cell? ⟨gLB, 0, none⟩ = some (.bool bLB) ∧ w'.cell? ⟨gLB, 1, none⟩ = some (.slice aLB nLB cLB) ∧ w'.cell? ⟨gLB, 2, none⟩ = some (.slice a'LB n'LB c'LB) ∧ w'.cell? ⟨gHB, 0, none⟩ = some (.bool bHB) ∧ w'.cell? ⟨gHB, 1, none⟩ = some (.slice aHB nHB cHB) ∧ w'.cell? ⟨gHB, 2, none⟩ = some (.slice a'HB n'HB c'HB)) (first | with_reducible exact SK.out _ kS_0 | with_reducible exact SK.out _ kS_1 | with_reducible exact SK.out _ hW_1 | with_reducible exact SK.out _ (Keep.alloc hW_1 _) | with_reducible exact SK.out _ hW_2 | with_reducible exact SK.out _ (Keep.alloc hW_2 _) | with_reducible exact SK.out _ hW_3 | with_reducible exact SK.out _ (Keep.alloc hW_3 _) | (refine SK.out _ ?_; (repeat' (first | exact Keep.refl _ | assumption | refine Keep.alloc ?_ _ | refine Keep.drew ?_ | refine keep_set ?_ (by first | exact Nat.le_refl _ | assumption | (simp <;> omega)) _ | (refine Keep.trans ?_ (by assumption))))) | go_keep)
                (first
                  | (go_at_call 46; ((with_reducible refine Calls.mono (OF1.out _) ?_); rintro e v1 ⟨vO, rfl, hO, k1⟩; (have hW_1 : Keep (wx9) v1 := Keep.trans kS_0 k1); (have O_r := Lib.hid hO); clear hO; (have mk_1_0 := trivial)))
                  | (go_at_call 46; ((with_reducible refine Calls.mono (OF1.out _) ?_); rintro e v1 ⟨vO, rfl, hO, k1⟩; (have hW_1 : Keep (wx9) v1 := Keep.trans kS_1 k1); (have O_r := Lib.hid hO); clear hO; (have mk_1_1 := trivial); (have NB_1 := Lib.hid (((QBox.new wx9 false none 0 0 none 0 0).at (g' := wx9.heap.size) (by first | rfl | simp)).keep (show Keep ((wx9.alloc (.cells #[.bool false, .slice none 0 0, .slice none 0 0] 25))) v1 from Keep.trans (Keep.drew (Keep.refl _)) k1)))))
                  | (go_at_call 21; ((have mark := mk_1_0); (with_reducible refine Calls.mono (IH.out _ _ _ ((CLB_8.out.keep hW_1).ra SB3.out.1) ((CHB_8.out.keep hW_1).ra SB3.out.2)) ?_); rintro e v2 ⟨vS, rfl, hS, k2⟩; (have hW_2 : Keep (wx9) v2 := Keep.trans hW_1 k2); (have hc_1_2 : Keep v1 v2 := Keep.trans (Keep.refl _) k2); (have S_r := Lib.hid hS); clear hS; (have mk_2_00 := trivial)))
                  | (go_at_call 21; ((have mark := mk_1_0); (with_reducible refine Calls.mono (IH.out _ _ _ ((CLB_8.out.keep (Keep.alloc hW_1 _)).ra SB3.out.1) ((CHB_8.out.keep (Keep.alloc hW_1 _)).ra SB3.out.2)) ?_); rintro e v2 ⟨vS, rfl, hS, k2⟩; (have hW_2 : Keep (wx9) v2 := Keep.trans (Keep.alloc hW_1 _) k2); (have hc_1_2 : Keep v1 v2 := Keep.trans (Keep.alloc (Keep.refl _) _) k2); (have S_r := Lib.hid hS); clear hS; (have mk_2_01 := trivial); (have NB_2 := Lib.hid (((QBox.new v1 false none 0 0 none 0 0).at (g' := v1.heap.size) (by first | rfl | simp)).keep (show Keep ((v1.alloc (.cells #[.bool false, .slice none 0 0, .slice none 0 0] 25))) v2 from Keep.trans (Keep.refl _) k2)))))
                  | (go_at_call 21; ((have mark := mk_1_1); (with_reducible refine Calls.mono (IH.out _ _ _ ((CLB_8.out.keep hW_1).ra SB3.out.1) ((CHB_8.out.keep hW_1).ra SB3.out.2)) ?_); rintro e v2 ⟨vS, rfl, hS, k2⟩; (have hW_2 : Keep (wx9) v2 := Keep.trans hW_1 k2); (have hc_1_2 : Keep v1 v2 := Keep.trans (Keep.refl _) k2); (have S_r := Lib.hid hS); clear hS; (have mk_2_10 := trivial); (have NB_2 := Lib.hid (NB_1.out.keep (hc_1_2)))))
                  | (go_at_call 47; ((have mark := mk_2_00); (with_reducible refine Calls.mono (DV3.out _ _ _ (O_r.out.keep hc_1_2) (S_r.out.keep (Keep.refl _))) ?_); rintro e v3 ⟨vQ, rfl, hq, k3⟩; (have hW_3 : Keep (wx9) v3 := Keep.trans hW_2 k3); (have hc_1_3 : Keep v1 v3 := Keep.trans hc_1_2 k3); (have hc_2_3 : Keep v2 v3 := Keep.trans (Keep.refl _) k3); (have Q_r := Lib.hid hq); clear hq; (have mk_3_000 := trivial); obtain ⟨za, zn, zc, za', zn', zc', rfl, -⟩ := Cr.form Q_r.out; (obtain ⟨bz, hbz⟩ : ∃ b, decide ((sv⁻¹).num < 0) = b := ⟨_, rfl⟩); (have Q2 := Q_r.out); rw [hbz] at Q2 ⊢; (have Q3 := Lib.hid Q2); clear Q2 hbz Q_r; (have hlo : 0 ≤ v3.heap.size := Nat.zero_le _); (have FIN := Lib.hid (PBoxQ.post Q3.out hlo hW_3))))
                  | (go_at_call 47; ((have mark := mk_2_00); (with_reducible refine Calls.mono (DV3.out _ _ _ (O_r.out.keep (Keep.alloc hc_1_2 _)) (S_r.out.keep (Keep.alloc (Keep.refl _) _))) ?_); rintro e v3 ⟨vQ, rfl, hq, k3⟩; (have hW_3 : Keep (wx9) v3 := Keep.trans (Keep.alloc hW_2 _) k3); (have hc_1_3 : Keep v1 v3 := Keep.trans (Keep.alloc hc_1_2 _) k3); (have hc_2_3 : Keep v2 v3 := Keep.trans (Keep.alloc (Keep.refl _) _) k3); (have Q_r := Lib.hid hq); clear hq; (have mk_3_001 := trivial); (have NB_3 := Lib.hid (((QBox.new v2 false none 0 0 none 0 0).at (g' := v2.heap.size) (by first | rfl | simp)).keep (show Keep ((v2.alloc (.cells #[.bool false, .slice none 0 0, .slice none 0 0] 25))) v3 from Keep.trans (Keep.refl _) k3))); obtain ⟨za, zn, zc, za', zn', zc', rfl, -⟩ := Cr.form Q_r.out; (obtain ⟨bz, hbz⟩ : ∃ b, decide ((sv⁻¹).num < 0) = b := ⟨_, rfl⟩); (have Q2 := Q_r.out); rw [hbz] at Q2 ⊢; (have Q3 := Lib.hid Q2); clear Q2 hbz Q_r; (have hlo : 0 ≤ v2.heap.size := Nat.zero_le _); (have hgw : (wx9).heap.size ≤ v2.heap.size := (by have h9 := Below.size hW_2; exact h9)); (obtain ⟨z0, z1, z2, f0, f1, f2, -⟩ := id NB_3.out); (have FIN := Lib.hid (PBoxQ.pre Q3.out NB_3.out hlo hgw hW_3))))
                  | (go_at_call 47; ((have mark := mk_2_01); (with_reducible refine Calls.mono (DV3.out _ _ _ (O_r.out.keep hc_1_2) (S_r.out.keep (Keep.refl _))) ?_); rintro e v3 ⟨vQ, rfl, hq, k3⟩; (have hW_3 : Keep (wx9) v3 := Keep.trans hW_2 k3); (have hc_1_3 : Keep v1 v3 := Keep.trans hc_1_2 k3); (have hc_2_3 : Keep v2 v3 := Keep.trans (Keep.refl _) k3); (have Q_r := Lib.hid hq); clear hq; (have mk_3_010 := trivial); (have NB_3 := Lib.hid (NB_2.out.keep (hc_2_3))); obtain ⟨za, zn, zc, za', zn', zc', rfl, -⟩ := Cr.form Q_r.out; (obtain ⟨bz, hbz⟩ : ∃ b, decide ((sv⁻¹).num < 0) = b := ⟨_, rfl⟩); (have Q2 := Q_r.out); rw [hbz] at Q2 ⊢; (have Q3 := Lib.hid Q2); clear Q2 hbz Q_r; (have hlo : 0 ≤ v1.heap.size := Nat.zero_le _); (have hgw : (wx9).heap.size ≤ v1.heap.size := (by have h9 := Below.size hW_1; exact h9)); (obtain ⟨z0, z1, z2, f0, f1, f2, -⟩ := id NB_3.out); (have FIN := Lib.hid (PBoxQ.pre Q3.out NB_3.out hlo hgw hW_3))))
                  | (go_at_call 47; ((have mark := mk_2_10); (with_reducible refine Calls.mono (DV3.out _ _ _ (O_r.out.keep hc_1_2) (S_r.out.keep (Keep.refl _))) ?_); rintro e v3 ⟨vQ, rfl, hq, k3⟩; (have hW_3 : Keep (wx9) v3 := Keep.trans hW_2 k3); (have hc_1_3 : Keep v1 v3 := Keep.trans hc_1_2 k3); (have hc_2_3 : Keep v2 v3 := Keep.trans (Keep.refl _) k3); (have Q_r := Lib.hid hq); clear hq; (have mk_3_100 := trivial); (have NB_3 := Lib.hid (NB_2.out.keep (hc_2_3))); obtain ⟨za, zn, zc, za', zn', zc', rfl, -⟩ := Cr.form Q_r.out; (obtain ⟨bz, hbz⟩ : ∃ b, decide ((sv⁻¹).num < 0) = b := ⟨_, rfl⟩); (have Q2 := Q_r.out); rw [hbz] at Q2 ⊢; (have Q3 := Lib.hid Q2); clear Q2 hbz Q_r; (have hlo : 0 ≤ wx9.heap.size := Nat.zero_le _); (have hgw : (wx9).heap.size ≤ wx9.heap.size := (by simp)); (obtain ⟨z0, z1, z2, f0, f1, f2, -⟩ := id NB_3.out); (have FIN := Lib.hid (PBoxQ.pre Q3.out NB_3.out hlo hgw hW_3)))))
              all_goals (go_wp2_with fail; go_meet; exact FIN.out)
            case rest =>
              obtain ⟨gSB, bSB, aSB, nSB, cSB, a'SB, n'SB, c'SB, rfl, -, hbx, hcr, kx⟩ := hcut
              obtain ⟨wx11, rfl⟩ : ∃ x : World, x = wc := ⟨_, rfl⟩
              have X_9 := Lib.hid (X_8.out.keep kx)
              have Y_9 := Lib.hid (Y_8.out.keep kx)
              have B_9 := Lib.hid (B_8.out.keep kx)
              have C_9 := Lib.hid (C_8.out.keep kx)
              have R_9 := Lib.hid (R_8.out.keep kx)
              have CWB_9 := Lib.hid (CWB_8.out.keep kx)
              have WB_9 := Lib.hid (WB_8.out.keep kx)
              have LB_9 := Lib.hid (LB_8.out.keep kx)
              have CLB_9 := Lib.hid (CLB_8.out.keep kx)
              have HB_9 := Lib.hid (HB_8.out.keep kx)
              have CHB_9 := Lib.hid (CHB_8.out.keep kx)
              have SB_9 := Lib.hid hbx
              have CSB_9 := Lib.hid hcr
              have KW_9 := Lib.hid (KW_8.out.trans kx)
              clear kx X_8 Y_8 B_8 C_8 R_8 CWB_8 WB_8 LB_8 CLB_8 HB_8 CHB_8 hbx hcr KW_8
              obtain ⟨B_c0, B_c1, B_c2, -, -, -, -⟩ := id B_9.out
              obtain ⟨C_c0, C_c1, C_c2, -, -, -, -⟩ := id C_9.out
              obtain ⟨R_c0, R_c1, R_c2, -, -, -, -⟩ := id R_9.out
              obtain ⟨WB_c0, WB_c1, WB_c2, -, -, -, -⟩ := id WB_9.out
              obtain ⟨LB_c0, LB_c1, LB_c2, -, -, -, -⟩ := id LB_9.out
              obtain ⟨HB_c0, HB_c1, HB_c2, -, -, -, -⟩ := id HB_9.out
              obtain ⟨SB_c0, SB_c1, SB_c2, -, -, -, -⟩ := id SB_9.out
              go_wp2_with fail
              refine Calls.mono (AD2.out _ _ _ (CWB_9.out.ra HRF.out) CSB_9.out) ?_
              rintro e wz ⟨u, rfl, hu, kz⟩
              clear B_c0 B_c1 B_c2 C_c0 C_c1 C_c2 R_c0 R_c1 R_c2 WB_c0 WB_c1 WB_c2 LB_c0 LB_c1 LB_c2 HB_c0 HB_c1 HB_c2 SB_c0 SB_c1 SB_c2
              obtain ⟨b0, a0, n0, c0, a1, n1, c1, rfl, hcr, hkk, f0, f1, f2, g0, g1, g2, s0, s1, s2⟩ := hu.put (R_9.out.keep kz) (KW_9.out.trans kz) (by omega)
              have FIN := Lib.hid (show RPost q w (.returned (.agg #[.bool b0, .slice a0 n0 c0, .slice a1 n1 c1])) _ from ⟨_, rfl, hcr, hkk⟩)
              clear hcr hkk hu kz KW_9 X_9 Y_9 B_9 C_9 R_9 CWB_9 WB_9 LB_9 CLB_9 HB_9 CHB_9 SB_9 CSB_9
              go_wp2
              refine bodyPost_ret (v := .agg #[.bool b0, .slice a0 n0 c0, .slice a1 n1 c1]) (by simp [results, Tryz.results21, go_sem, s0, s1, s2]) rfl ?_
              exact FIN.out
theorem rpos_n (N : Nat) : ∀ {w : World} {v u : Value} {lo hi : Rat} {k : Nat}, Ra w v lo k → Ra w u hi k → 0 < lo → lo ≤ hi → lo.den + hi.den ≤ N → 1 ≤ k → k < 47 → Calls Tryz.prog 21 #[v, u] w (RPost (smpF N lo hi) w) := by
  induction N with
  | zero => intro w v u lo hi k _ _ _ _ h; have := lo.den_nz; omega
  | succ N ih =>
    intro w v u lo hi k hx hy h0 h1 hN hk1 hk
    obtain ⟨s, a, n, c, a', n', c', A, D, rfl, _, _, _⟩ := hx.form
    obtain ⟨t, b, m, g, b', m', g', M, E, rfl, _, _, _⟩ := hy.form
    exact rpos_s N ih hx hy h0 h1 hN hk1 hk
end Go.Proofs.YtjkfnnoakjdgmaaGreatDoor
