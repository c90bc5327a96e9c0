/- Carried over from another seat by program (port.py): layer 1. -/
import Derived.Test.YtjkfnnoakjdgmaaGreatDoorR15
namespace Go.Proofs.YtjkfnnoakjdgmaaGreatDoor
open Go.RowKit
set_option linter.unusedVariables false
set_option maxHeartbeats 1600000 in
theorem simplest_0 {w : World} {s t : Bool} {a a' b b' : Option Addr} {n c n' c' m g m' g' k : Nat} {lo hi : Rat} (hx : Ra w (.agg #[.bool s, .slice a n c, .slice a' n' c']) lo k) (hy : Ra w (.agg #[.bool t, .slice b m g, .slice b' m' g']) hi k) (h0 : hi < lo) (hk1 : 1 ≤ k) (hk : k < 47) (hT : Tab w) :
    Calls Tryz.prog 5 #[.agg #[.bool s, .slice a n c, .slice a' n' c'], .agg #[.bool t, .slice b m g, .slice b' m' g']] w (R2Post (0) (.int .i64 2) w) := by
  obtain ⟨B_0, C_0, R_0, KW_0⟩ := op2 w s a n c a' n' c' t b m g b' m' g'
  have X_0 := Lib.hid (hx.keep KW_0.out)
  have Y_0 := Lib.hid (hy.keep KW_0.out)
  have T_0 := Lib.hid (hT.keep KW_0.out)
  have rlo := hx.rb hk1
  have rhi := hy.rb hk1
  have CP := Lib.hid (fun w1 (hu : Ra w1 (.agg #[.bool s, .slice a n c, .slice a' n' c']) lo k) (h : Ra w1 (.agg #[.bool t, .slice b m g, .slice b' m' g']) hi k) => qcmp_c hu h (by omega) hk1)
  have S1 := Lib.hid (fun w1 (hu : Ra w1 (.agg #[.bool s, .slice a n c, .slice a' n' c']) lo k) => qsign_c hu (by omega))
  have S2 := Lib.hid (fun w1 (hu : Ra w1 (.agg #[.bool t, .slice b m g, .slice b' m' g']) hi k) => qsign_c hu (by omega))
  rw [rC_gt h0] at CP
  clear hx hy hT rlo rhi S1 S2 h0
  go_enter Tryz.func5, Tryz.ntmps5
  obtain ⟨B_c0, B_c1, B_c2, -, -, -, -⟩ := id B_0.out
  obtain ⟨C_c0, C_c1, C_c2, -, -, -, -⟩ := id C_0.out
  obtain ⟨R_c0, R_c1, R_c2, -, -, -, -⟩ := id R_0.out
  go_wp2_with fail
  refine Calls.mono (CP.out _ X_0.out Y_0.out) ?_
  rintro e w1 ⟨rfl, k1⟩
  clear B_c0 B_c1 B_c2 C_c0 C_c1 C_c2 R_c0 R_c1 R_c2
  have X_1 := Lib.hid (X_0.out.keep k1)
  have Y_1 := Lib.hid (Y_0.out.keep k1)
  have T_1 := Lib.hid (T_0.out.keep k1)
  have B_1 := Lib.hid (B_0.out.keep k1)
  have C_1 := Lib.hid (C_0.out.keep k1)
  have R_1 := Lib.hid (R_0.out.keep k1)
  have KW_1 := Lib.hid (KW_0.out.trans k1)
  clear k1 X_0 Y_0 T_0 B_0 C_0 R_0 KW_0
  obtain ⟨F, hkk, s0, s1, s2⟩ := put_of (w0 := w) (q := 0) (b := false) (a := none) (n := 0) (c := 0) (a' := none) (n' := 0) (c' := 0) (by decide) (by show Rd _ none 0 0 (dig 0); rw [dig_zero]; exact Rd.nil _) (by show Rd _ none 0 0 (dig 0); rw [dig_zero]; exact Rd.nil _) R_1.out KW_1.out (by omega)
  obtain ⟨_, e0, hcr, _⟩ := F
  cases e0
  have FIN := Lib.hid (show R2Post 0 (.int .i64 2) w (.returned (.tuple #[.agg #[.bool false, .slice none 0 0, .slice none 0 0], .int .i64 2])) _ from ⟨_, rfl, hcr, hkk⟩)
  obtain ⟨y0, y1, y2, f0, f1, f2, _⟩ := id R_1.out
  clear hkk hcr
  obtain ⟨B_c0, B_c1, B_c2, _, _, _, _⟩ := id B_1.out
  obtain ⟨C_c0, C_c1, C_c2, _, _, _, _⟩ := id C_1.out
  go_wp2
  refine bodyPost_ret (v := .tuple #[.agg #[.bool false, .slice none 0 0, .slice none 0 0], .int .i64 2]) (by simp [results, Tryz.results5, go_sem, s0, s1, s2]) rfl ?_
  exact FIN.out
set_option maxHeartbeats 1600000 in
theorem simplest_1 {w : World} {s t : Bool} {a a' b b' : Option Addr} {n c n' c' m g m' g' k : Nat} {lo hi : Rat} (hx : Ra w (.agg #[.bool s, .slice a n c, .slice a' n' c']) lo k) (hy : Ra w (.agg #[.bool t, .slice b m g, .slice b' m' g']) hi k) (h1 : lo ≤ hi) (h0 : 0 < lo) (hk1 : 1 ≤ k) (hk : k < 47) (hT : Tab w) :
    Calls Tryz.prog 5 #[.agg #[.bool s, .slice a n c, .slice a' n' c'], .agg #[.bool t, .slice b m g, .slice b' m' g']] w (R2Post (smpF (lo.den + hi.den) lo hi) (.int .i64 0) w) := by
  obtain ⟨B_0, C_0, R_0, KW_0⟩ := op2 w s a n c a' n' c' t b m g b' m' g'
  have X_0 := Lib.hid (hx.keep KW_0.out)
  have Y_0 := Lib.hid (hy.keep KW_0.out)
  have T_0 := Lib.hid (hT.keep KW_0.out)
  have rlo := hx.rb hk1
  have rhi := hy.rb hk1
  have CP := Lib.hid (fun w1 (hu : Ra w1 (.agg #[.bool s, .slice a n c, .slice a' n' c']) lo k) (h : Ra w1 (.agg #[.bool t, .slice b m g, .slice b' m' g']) hi k) => qcmp_c hu h (by omega) hk1)
  have S1 := Lib.hid (fun w1 (hu : Ra w1 (.agg #[.bool s, .slice a n c, .slice a' n' c']) lo k) => qsign_c hu (by omega))
  have S2 := Lib.hid (fun w1 (hu : Ra w1 (.agg #[.bool t, .slice b m g, .slice b' m' g']) hi k) => qsign_c hu (by omega))
  obtain ⟨z, hz⟩ : ∃ z, rC lo hi = z := ⟨_, rfl⟩
  have hz1 : decide (0 < z) = false := decide_eq_false (by
    rw [← hz]; rcases rC_facts lo hi with h | h | h
    · rw [h.1]; decide
    · rw [h.1]; decide
    · exact absurd h1 (Rat.not_le.2 h.2))
  rw [hz] at CP
  clear hz
  have hs1 : rS lo = 1 := rC_gt h0
  rw [hs1] at S1
  have CX := Lib.hid (fun w1 (hu : Ra w1 (.agg #[.bool s, .slice a n c, .slice a' n' c']) lo k) (hT1 : Tab w1) => canon_c hu (by omega) hk1 hT1)
  have CY := Lib.hid (fun w1 (hu : Ra w1 (.agg #[.bool t, .slice b m g, .slice b' m' g']) hi k) (hT1 : Tab w1) => canon_c hu (by omega) hk1 hT1)
  have SM := Lib.hid (fun w1 v u (hv : Cr w1 v lo) (hu : Cr w1 u hi) (hT1 : Tab w1) => simplest_n (lo.den + hi.den) (hv.ra rlo) (hu.ra rhi) h0 h1 (Nat.le_refl _) hk1 hk hT1)
  obtain ⟨q, hq⟩ : ∃ q, smpF (lo.den + hi.den) lo hi = q := ⟨_, rfl⟩
  rw [hq] at SM ⊢
  clear hx hy hT rlo rhi S2 h0 h1 hs1 hq
  go_enter Tryz.func5, Tryz.ntmps5
  obtain ⟨B_c0, B_c1, B_c2, -, -, -, -⟩ := id B_0.out
  obtain ⟨C_c0, C_c1, C_c2, -, -, -, -⟩ := id C_0.out
  obtain ⟨R_c0, R_c1, R_c2, -, -, -, -⟩ := id R_0.out
  go_wp2_with fail
  refine Calls.mono (CP.out _ X_0.out Y_0.out) ?_
  rintro e w1 ⟨rfl, k1⟩
  clear B_c0 B_c1 B_c2 C_c0 C_c1 C_c2 R_c0 R_c1 R_c2
  have X_1 := Lib.hid (X_0.out.keep k1)
  have Y_1 := Lib.hid (Y_0.out.keep k1)
  have T_1 := Lib.hid (T_0.out.keep k1)
  have B_1 := Lib.hid (B_0.out.keep k1)
  have C_1 := Lib.hid (C_0.out.keep k1)
  have R_1 := Lib.hid (R_0.out.keep k1)
  have KW_1 := Lib.hid (KW_0.out.trans k1)
  clear k1 X_0 Y_0 T_0 B_0 C_0 R_0 KW_0
  obtain ⟨B_c0, B_c1, B_c2, -, -, -, -⟩ := id B_1.out
  obtain ⟨C_c0, C_c1, C_c2, -, -, -, -⟩ := id C_1.out
  obtain ⟨R_c0, R_c1, R_c2, -, -, -, -⟩ := id R_1.out
  go_wp2_with fail
  refine Calls.mono (S1.out _ X_1.out) ?_
  rintro e w2 ⟨rfl, k2⟩
  clear B_c0 B_c1 B_c2 C_c0 C_c1 C_c2 R_c0 R_c1 R_c2
  have X_2 := Lib.hid (X_1.out.keep k2)
  have Y_2 := Lib.hid (Y_1.out.keep k2)
  have T_2 := Lib.hid (T_1.out.keep k2)
  have B_2 := Lib.hid (B_1.out.keep k2)
  have C_2 := Lib.hid (C_1.out.keep k2)
  have R_2 := Lib.hid (R_1.out.keep k2)
  have KW_2 := Lib.hid (KW_1.out.trans k2)
  clear k2 X_1 Y_1 T_1 B_1 C_1 R_1 KW_1
  obtain ⟨oB_0, oB_1, oB_2, -, -, -, -⟩ := id B_2.out
  obtain ⟨oC_0, oC_1, oC_2, -, -, -, -⟩ := id C_2.out
  obtain ⟨oR_0, oR_1, oR_2, -, -, -, -⟩ := id R_2.out
  have X_3 := Lib.hid (X_2.out.keep (keep_drew _))
  clear X_2
  have Y_3 := Lib.hid (Y_2.out.keep (keep_drew _))
  clear Y_2
  have T_3 := Lib.hid (T_2.out.keep (keep_drew _))
  clear T_2
  have B_3 := Lib.hid (B_2.out.keep (keep_drew _))
  clear B_2
  have C_3 := Lib.hid (C_2.out.keep (keep_drew _))
  clear C_2
  have R_3 := Lib.hid (R_2.out.keep (keep_drew _))
  clear R_2
  have KW_3 := Lib.hid (KW_2.out.trans (keep_drew _))
  clear KW_2
  obtain ⟨cB_3_0, cB_3_1, cB_3_2, -, -, -, -⟩ := id B_3.out
  obtain ⟨cC_3_0, cC_3_1, cC_3_2, -, -, -, -⟩ := id C_3.out
  go_wp2
  go_region_held3 (fun w' => w'.cell? ⟨w.heap.size, 0, none⟩ = some (.bool s) ∧ w'.cell? ⟨w.heap.size, 1, none⟩ = some (.slice a n c) ∧ w'.cell? ⟨w.heap.size, 2, none⟩ = some (.slice a' n' c') ∧ w'.cell? ⟨w.heap.size + 1, 0, none⟩ = some (.bool t) ∧ w'.cell? ⟨w.heap.size + 1, 1, none⟩ = some (.slice b m g) ∧ w'.cell? ⟨w.heap.size + 1, 2, none⟩ = some (.slice b' m' g')) (first | exact ⟨yB_0, yB_1, yB_2, yC_0, yC_1, yC_2⟩ | exact ⟨zB_0, zB_1, zB_2, zC_0, zC_1, zC_2⟩ | exact ⟨cB_5_0, cB_5_1, cB_5_2, cC_5_0, cC_5_1, cC_5_2⟩ | exact ⟨cB_4_0, cB_4_1, cB_4_2, cC_4_0, cC_4_1, cC_4_2⟩ | exact ⟨cB_3_0, cB_3_1, cB_3_2, cC_3_0, cC_3_1, cC_3_2⟩ | go_keep)
    (first
      | (go_at_call 15; ((with_reducible refine Calls.mono (SM.out _ _ _ P_5.out Q_5.out T_5.out) ?_); rintro e wz ⟨u, rfl, hu, kz⟩; obtain ⟨b0, a0, n0, c0, a1, n1, c1, rfl, hcr, hkk, f0, f1, f2, g0, g1, g2, s0, s1, s2⟩ := hu.put (R_5.out.keep kz) (KW_5.out.trans kz) (by omega); have FIN := Lib.hid (show R2Post q (.int .i64 0) w (.returned (.tuple #[.agg #[.bool b0, .slice a0 n0 c0, .slice a1 n1 c1], .int .i64 0])) _ from ⟨_, rfl, hcr, hkk⟩); have YB := (B_5.out.keep kz).other3 (g := w.heap.size + 1 + 1) (by omega) (.bool b0) (.slice a0 n0 c0) (.slice a1 n1 c1); obtain ⟨yB_0, yB_1, yB_2, -, -, -, -⟩ := YB; obtain ⟨zB_0, zB_1, zB_2, -, -, -, -⟩ := B_5.out.keep kz; have YC := (C_5.out.keep kz).other3 (g := w.heap.size + 1 + 1) (by omega) (.bool b0) (.slice a0 n0 c0) (.slice a1 n1 c1); obtain ⟨yC_0, yC_1, yC_2, -, -, -, -⟩ := YC; obtain ⟨zC_0, zC_1, zC_2, -, -, -, -⟩ := C_5.out.keep kz; clear hcr hkk hu kz))
      | (go_at_call_of 16 (Value.agg #[Value.bool t, Value.slice b m g, Value.slice b' m' g']); ((with_reducible refine Calls.mono (CY.out _ Y_4.out T_4.out) ?_); rintro e w5 ⟨x2, rfl, hQ, k5⟩; have X_5 := Lib.hid (X_4.out.keep k5); have Y_5 := Lib.hid (Y_4.out.keep k5); have T_5 := Lib.hid (T_4.out.keep k5); have B_5 := Lib.hid (B_4.out.keep k5); have C_5 := Lib.hid (C_4.out.keep k5); have R_5 := Lib.hid (R_4.out.keep k5); have P_5 := Lib.hid (P_4.out.keep k5); have Q_5 := Lib.hid hQ; clear hQ; have KW_5 := Lib.hid (KW_4.out.trans k5); obtain ⟨cB_5_0, cB_5_1, cB_5_2, -, -, -, -⟩ := id B_5.out; obtain ⟨cC_5_0, cC_5_1, cC_5_2, -, -, -, -⟩ := id C_5.out; clear k5))
      | (go_at_call_of 16 (Value.agg #[Value.bool s, Value.slice a n c, Value.slice a' n' c']); ((with_reducible refine Calls.mono (CX.out _ X_3.out T_3.out) ?_); rintro e w4 ⟨x1, rfl, hP, k4⟩; have X_4 := Lib.hid (X_3.out.keep k4); have Y_4 := Lib.hid (Y_3.out.keep k4); have T_4 := Lib.hid (T_3.out.keep k4); have B_4 := Lib.hid (B_3.out.keep k4); have C_4 := Lib.hid (C_3.out.keep k4); have R_4 := Lib.hid (R_3.out.keep k4); have P_4 := Lib.hid hP; clear hP; have KW_4 := Lib.hid (KW_3.out.trans k4); obtain ⟨cB_4_0, cB_4_1, cB_4_2, -, -, -, -⟩ := id B_4.out; obtain ⟨cC_4_0, cC_4_1, cC_4_2, -, -, -, -⟩ := id C_4.out; clear k4)))
  all_goals
    go_wp2
    refine bodyPost_ret (v := .tuple #[.agg #[.bool b0, .slice a0 n0 c0, .slice a1 n1 c1], .int .i64 0]) (by simp [results, Tryz.results5, go_sem, s0, s1, s2]) rfl ?_
    exact FIN.out
set_option maxHeartbeats 1600000 in
theorem simplest_2 {w : World} {s t : Bool} {a a' b b' : Option Addr} {n c n' c' m g m' g' k : Nat} {lo hi : Rat} (hx : Ra w (.agg #[.bool s, .slice a n c, .slice a' n' c']) lo k) (hy : Ra w (.agg #[.bool t, .slice b m g, .slice b' m' g']) hi k) (h1 : lo ≤ hi) (h0 : ¬ 0 < lo) (h2 : hi < 0) (hk1 : 1 ≤ k) (hk : k < 47) (hT : Tab w) :
    Calls Tryz.prog 5 #[.agg #[.bool s, .slice a n c, .slice a' n' c'], .agg #[.bool t, .slice b m g, .slice b' m' g']] w (R2Post (-smpF (hi.den + lo.den) (-hi) (-lo)) (.int .i64 0) w) := by
  obtain ⟨B_0, C_0, R_0, KW_0⟩ := op2 w s a n c a' n' c' t b m g b' m' g'
  have X_0 := Lib.hid (hx.keep KW_0.out)
  have Y_0 := Lib.hid (hy.keep KW_0.out)
  have T_0 := Lib.hid (hT.keep KW_0.out)
  have rlo := hx.rb hk1
  have rhi := hy.rb hk1
  have CP := Lib.hid (fun w1 (hu : Ra w1 (.agg #[.bool s, .slice a n c, .slice a' n' c']) lo k) (h : Ra w1 (.agg #[.bool t, .slice b m g, .slice b' m' g']) hi k) => qcmp_c hu h (by omega) hk1)
  have S1 := Lib.hid (fun w1 (hu : Ra w1 (.agg #[.bool s, .slice a n c, .slice a' n' c']) lo k) => qsign_c hu (by omega))
  have S2 := Lib.hid (fun w1 (hu : Ra w1 (.agg #[.bool t, .slice b m g, .slice b' m' g']) hi k) => qsign_c hu (by omega))
  obtain ⟨z, hz⟩ : ∃ z, rC lo hi = z := ⟨_, rfl⟩
  have hz1 : decide (0 < z) = false := decide_eq_false (by
    rw [← hz]; rcases rC_facts lo hi with h | h | h
    · rw [h.1]; decide
    · rw [h.1]; decide
    · exact absurd h1 (Rat.not_le.2 h.2))
  rw [hz] at CP
  clear hz
  obtain ⟨z2, hz2⟩ : ∃ z, rS lo = z := ⟨_, rfl⟩
  have hz3 : decide (0 < z2) = false := decide_eq_false (by
    rw [← hz2]; rcases rC_facts lo 0 with h | h | h
    · rw [show rS lo = rC lo 0 from rfl, h.1]; decide
    · rw [show rS lo = rC lo 0 from rfl, h.1]; decide
    · exact absurd h.2 h0)
  rw [hz2] at S1
  have hs2 : rS hi = -1 := rC_lt h2
  rw [hs2] at S2
  have p0 : 0 < -hi := by grind
  have p1 : -hi ≤ -lo := by grind
  have IS := smp_is (hi.den + lo.den) p0 p1 (Nat.le_refl _)
  have rs := smp_rb p0 IS p1 rhi.neg
  have CX := Lib.hid (fun w1 (hu : Ra w1 (.agg #[.bool s, .slice a n c, .slice a' n' c']) lo k) (hT1 : Tab w1) => neg_c hu (by omega) hk1 hT1)
  have CY := Lib.hid (fun w1 (hu : Ra w1 (.agg #[.bool t, .slice b m g, .slice b' m' g']) hi k) (hT1 : Tab w1) => neg_c hu (by omega) hk1 hT1)
  have SM := Lib.hid (fun w1 v u (hv : Cr w1 v (-hi)) (hu : Cr w1 u (-lo)) (hT1 : Tab w1) => simplest_n (hi.den + lo.den) (hv.ra rhi.neg) (hu.ra rlo.neg) p0 p1 (Nat.le_refl _) hk1 hk hT1)
  have NG := Lib.hid (fun w1 v (hv : Cr w1 v (smpF (hi.den + lo.den) (-hi) (-lo))) (hT1 : Tab w1) => neg_c (hv.ra rs) (by omega) hk1 hT1)
  obtain ⟨q, hq⟩ : ∃ q, smpF (hi.den + lo.den) (-hi) (-lo) = q := ⟨_, rfl⟩
  rw [hq] at SM NG ⊢
  clear hx hy hT rlo rhi h0 h1 h2 hs2 hz2 hq IS rs p0 p1
  go_enter Tryz.func5, Tryz.ntmps5
  obtain ⟨B_c0, B_c1, B_c2, -, -, -, -⟩ := id B_0.out
  obtain ⟨C_c0, C_c1, C_c2, -, -, -, -⟩ := id C_0.out
  obtain ⟨R_c0, R_c1, R_c2, -, -, -, -⟩ := id R_0.out
  go_wp2_with fail
  refine Calls.mono (CP.out _ X_0.out Y_0.out) ?_
  rintro e w1 ⟨rfl, k1⟩
  clear B_c0 B_c1 B_c2 C_c0 C_c1 C_c2 R_c0 R_c1 R_c2
  have X_1 := Lib.hid (X_0.out.keep k1)
  have Y_1 := Lib.hid (Y_0.out.keep k1)
  have T_1 := Lib.hid (T_0.out.keep k1)
  have B_1 := Lib.hid (B_0.out.keep k1)
  have C_1 := Lib.hid (C_0.out.keep k1)
  have R_1 := Lib.hid (R_0.out.keep k1)
  have KW_1 := Lib.hid (KW_0.out.trans k1)
  clear k1 X_0 Y_0 T_0 B_0 C_0 R_0 KW_0
  obtain ⟨B_c0, B_c1, B_c2, -, -, -, -⟩ := id B_1.out
  obtain ⟨C_c0, C_c1, C_c2, -, -, -, -⟩ := id C_1.out
  obtain ⟨R_c0, R_c1, R_c2, -, -, -, -⟩ := id R_1.out
  go_wp2_with fail
  refine Calls.mono (S1.out _ X_1.out) ?_
  rintro e w2 ⟨rfl, k2⟩
  clear B_c0 B_c1 B_c2 C_c0 C_c1 C_c2 R_c0 R_c1 R_c2
  have X_2 := Lib.hid (X_1.out.keep k2)
  have Y_2 := Lib.hid (Y_1.out.keep k2)
  have T_2 := Lib.hid (T_1.out.keep k2)
  have B_2 := Lib.hid (B_1.out.keep k2)
  have C_2 := Lib.hid (C_1.out.keep k2)
  have R_2 := Lib.hid (R_1.out.keep k2)
  have KW_2 := Lib.hid (KW_1.out.trans k2)
  clear k2 X_1 Y_1 T_1 B_1 C_1 R_1 KW_1
  obtain ⟨B_c0, B_c1, B_c2, -, -, -, -⟩ := id B_2.out
  obtain ⟨C_c0, C_c1, C_c2, -, -, -, -⟩ := id C_2.out
  obtain ⟨R_c0, R_c1, R_c2, -, -, -, -⟩ := id R_2.out
  go_wp2_with fail
  refine Calls.mono (S2.out _ Y_2.out) ?_
  rintro e w3 ⟨rfl, k3⟩
  clear B_c0 B_c1 B_c2 C_c0 C_c1 C_c2 R_c0 R_c1 R_c2
  have X_3 := Lib.hid (X_2.out.keep k3)
  have Y_3 := Lib.hid (Y_2.out.keep k3)
  have T_3 := Lib.hid (T_2.out.keep k3)
  have B_3 := Lib.hid (B_2.out.keep k3)
  have C_3 := Lib.hid (C_2.out.keep k3)
  have R_3 := Lib.hid (R_2.out.keep k3)
  have KW_3 := Lib.hid (KW_2.out.trans k3)
  clear k3 X_2 Y_2 T_2 B_2 C_2 R_2 KW_2
  obtain ⟨oB_0, oB_1, oB_2, -, -, -, -⟩ := id B_3.out
  obtain ⟨oC_0, oC_1, oC_2, -, -, -, -⟩ := id C_3.out
  obtain ⟨oR_0, oR_1, oR_2, -, -, -, -⟩ := id R_3.out
  have X_4 := Lib.hid (X_3.out.keep (keep_drew _))
  clear X_3
  have Y_4 := Lib.hid (Y_3.out.keep (keep_drew _))
  clear Y_3
  have T_4 := Lib.hid (T_3.out.keep (keep_drew _))
  clear T_3
  have B_4 := Lib.hid (B_3.out.keep (keep_drew _))
  clear B_3
  have C_4 := Lib.hid (C_3.out.keep (keep_drew _))
  clear C_3
  have R_4 := Lib.hid (R_3.out.keep (keep_drew _))
  clear R_3
  have KW_4 := Lib.hid (KW_3.out.trans (keep_drew _))
  clear KW_3
  obtain ⟨cC_4_0, cC_4_1, cC_4_2, -, -, -, -⟩ := id C_4.out
  obtain ⟨cB_4_0, cB_4_1, cB_4_2, -, -, -, -⟩ := id B_4.out
  go_wp2
  go_region_held3 (fun w' => w'.cell? ⟨w.heap.size + 1, 0, none⟩ = some (.bool t) ∧ w'.cell? ⟨w.heap.size + 1, 1, none⟩ = some (.slice b m g) ∧ w'.cell? ⟨w.heap.size + 1, 2, none⟩ = some (.slice b' m' g') ∧ w'.cell? ⟨w.heap.size, 0, none⟩ = some (.bool s) ∧ w'.cell? ⟨w.heap.size, 1, none⟩ = some (.slice a n c) ∧ w'.cell? ⟨w.heap.size, 2, none⟩ = some (.slice a' n' c')) (first | exact ⟨yC_0, yC_1, yC_2, yB_0, yB_1, yB_2⟩ | exact ⟨zC_0, zC_1, zC_2, zB_0, zB_1, zB_2⟩ | exact ⟨cC_7_0, cC_7_1, cC_7_2, cB_7_0, cB_7_1, cB_7_2⟩ | exact ⟨cC_6_0, cC_6_1, cC_6_2, cB_6_0, cB_6_1, cB_6_2⟩ | exact ⟨cC_5_0, cC_5_1, cC_5_2, cB_5_0, cB_5_1, cB_5_2⟩ | exact ⟨cC_4_0, cC_4_1, cC_4_2, cB_4_0, cB_4_1, cB_4_2⟩ | go_keep)
    (first
      | (go_at_call_of 17 (x3); ((with_reducible refine Calls.mono (NG.out _ _ S_7.out T_7.out) ?_); rintro e wz ⟨u, rfl, hu, kz⟩; obtain ⟨b0, a0, n0, c0, a1, n1, c1, rfl, hcr, hkk, f0, f1, f2, g0, g1, g2, s0, s1, s2⟩ := hu.put (R_7.out.keep kz) (KW_7.out.trans kz) (by omega); have FIN := Lib.hid (show R2Post (-q) (.int .i64 0) w (.returned (.tuple #[.agg #[.bool b0, .slice a0 n0 c0, .slice a1 n1 c1], .int .i64 0])) _ from ⟨_, rfl, hcr, hkk⟩); have YC := (C_7.out.keep kz).other3 (g := w.heap.size + 1 + 1) (by omega) (.bool b0) (.slice a0 n0 c0) (.slice a1 n1 c1); obtain ⟨yC_0, yC_1, yC_2, -, -, -, -⟩ := YC; obtain ⟨zC_0, zC_1, zC_2, -, -, -, -⟩ := C_7.out.keep kz; have YB := (B_7.out.keep kz).other3 (g := w.heap.size + 1 + 1) (by omega) (.bool b0) (.slice a0 n0 c0) (.slice a1 n1 c1); obtain ⟨yB_0, yB_1, yB_2, -, -, -, -⟩ := YB; obtain ⟨zB_0, zB_1, zB_2, -, -, -, -⟩ := B_7.out.keep kz; clear hcr hkk hu kz))
      | (go_at_call 15; ((with_reducible refine Calls.mono (SM.out _ _ _ P_6.out Q_6.out T_6.out) ?_); rintro e w7 ⟨x3, rfl, hS, k7⟩; have X_7 := Lib.hid (X_6.out.keep k7); have Y_7 := Lib.hid (Y_6.out.keep k7); have T_7 := Lib.hid (T_6.out.keep k7); have B_7 := Lib.hid (B_6.out.keep k7); have C_7 := Lib.hid (C_6.out.keep k7); have R_7 := Lib.hid (R_6.out.keep k7); have P_7 := Lib.hid (P_6.out.keep k7); have Q_7 := Lib.hid (Q_6.out.keep k7); have S_7 := Lib.hid hS; clear hS; have KW_7 := Lib.hid (KW_6.out.trans k7); obtain ⟨cC_7_0, cC_7_1, cC_7_2, -, -, -, -⟩ := id C_7.out; obtain ⟨cB_7_0, cB_7_1, cB_7_2, -, -, -, -⟩ := id B_7.out; clear k7))
      | (go_at_call_of 17 (Value.agg #[Value.bool s, Value.slice a n c, Value.slice a' n' c']); ((with_reducible refine Calls.mono (CX.out _ X_5.out T_5.out) ?_); rintro e w6 ⟨x2, rfl, hQ, k6⟩; have X_6 := Lib.hid (X_5.out.keep k6); have Y_6 := Lib.hid (Y_5.out.keep k6); have T_6 := Lib.hid (T_5.out.keep k6); have B_6 := Lib.hid (B_5.out.keep k6); have C_6 := Lib.hid (C_5.out.keep k6); have R_6 := Lib.hid (R_5.out.keep k6); have P_6 := Lib.hid (P_5.out.keep k6); have Q_6 := Lib.hid hQ; clear hQ; have KW_6 := Lib.hid (KW_5.out.trans k6); obtain ⟨cC_6_0, cC_6_1, cC_6_2, -, -, -, -⟩ := id C_6.out; obtain ⟨cB_6_0, cB_6_1, cB_6_2, -, -, -, -⟩ := id B_6.out; clear k6))
      | (go_at_call_of 17 (Value.agg #[Value.bool t, Value.slice b m g, Value.slice b' m' g']); ((with_reducible refine Calls.mono (CY.out _ Y_4.out T_4.out) ?_); rintro e w5 ⟨x1, rfl, hP, k5⟩; have X_5 := Lib.hid (X_4.out.keep k5); have Y_5 := Lib.hid (Y_4.out.keep k5); have T_5 := Lib.hid (T_4.out.keep k5); have B_5 := Lib.hid (B_4.out.keep k5); have C_5 := Lib.hid (C_4.out.keep k5); have R_5 := Lib.hid (R_4.out.keep k5); have P_5 := Lib.hid hP; clear hP; have KW_5 := Lib.hid (KW_4.out.trans k5); obtain ⟨cC_5_0, cC_5_1, cC_5_2, -, -, -, -⟩ := id C_5.out; obtain ⟨cB_5_0, cB_5_1, cB_5_2, -, -, -, -⟩ := id B_5.out; clear k5)))
  all_goals
    go_wp2
    refine bodyPost_ret (v := .tuple #[.agg #[.bool b0, .slice a0 n0 c0, .slice a1 n1 c1], .int .i64 0]) (by simp [results, Tryz.results5, go_sem, s0, s1, s2]) rfl ?_
    exact FIN.out
set_option maxHeartbeats 1600000 in
theorem simplest_3 {w : World} {s t : Bool} {a a' b b' : Option Addr} {n c n' c' m g m' g' k : Nat} {lo hi : Rat} (hx : Ra w (.agg #[.bool s, .slice a n c, .slice a' n' c']) lo k) (hy : Ra w (.agg #[.bool t, .slice b m g, .slice b' m' g']) hi k) (h1 : lo ≤ hi) (h0 : ¬ 0 < lo) (h2 : ¬ hi < 0) (hk1 : 1 ≤ k) (hk : k < 47) (hT : Tab w) :
    Calls Tryz.prog 5 #[.agg #[.bool s, .slice a n c, .slice a' n' c'], .agg #[.bool t, .slice b m g, .slice b' m' g']] w (R2Post (0) (.int .i64 0) w) := by
  obtain ⟨B_0, C_0, R_0, KW_0⟩ := op2 w s a n c a' n' c' t b m g b' m' g'
  have X_0 := Lib.hid (hx.keep KW_0.out)
  have Y_0 := Lib.hid (hy.keep KW_0.out)
  have T_0 := Lib.hid (hT.keep KW_0.out)
  have rlo := hx.rb hk1
  have rhi := hy.rb hk1
  have CP := Lib.hid (fun w1 (hu : Ra w1 (.agg #[.bool s, .slice a n c, .slice a' n' c']) lo k) (h : Ra w1 (.agg #[.bool t, .slice b m g, .slice b' m' g']) hi k) => qcmp_c hu h (by omega) hk1)
  have S1 := Lib.hid (fun w1 (hu : Ra w1 (.agg #[.bool s, .slice a n c, .slice a' n' c']) lo k) => qsign_c hu (by omega))
  have S2 := Lib.hid (fun w1 (hu : Ra w1 (.agg #[.bool t, .slice b m g, .slice b' m' g']) hi k) => qsign_c hu (by omega))
  obtain ⟨z, hz⟩ : ∃ z, rC lo hi = z := ⟨_, rfl⟩
  have hz1 : decide (0 < z) = false := decide_eq_false (by
    rw [← hz]; rcases rC_facts lo hi with h | h | h
    · rw [h.1]; decide
    · rw [h.1]; decide
    · exact absurd h1 (Rat.not_le.2 h.2))
  rw [hz] at CP
  clear hz
  obtain ⟨z2, hz2⟩ : ∃ z, rS lo = z := ⟨_, rfl⟩
  have hz3 : decide (0 < z2) = false := decide_eq_false (by
    rw [← hz2]; rcases rC_facts lo 0 with h | h | h
    · rw [show rS lo = rC lo 0 from rfl, h.1]; decide
    · rw [show rS lo = rC lo 0 from rfl, h.1]; decide
    · exact absurd h.2 h0)
  rw [hz2] at S1
  obtain ⟨z3, hz4⟩ : ∃ z, rS hi = z := ⟨_, rfl⟩
  have hz5 : decide (z3 < 0) = false := decide_eq_false (by
    rw [← hz4]; rcases rC_facts hi 0 with h | h | h
    · exact absurd h.2 h2
    · rw [show rS hi = rC hi 0 from rfl, h.1]; decide
    · rw [show rS hi = rC hi 0 from rfl, h.1]; decide)
  rw [hz4] at S2
  clear hx hy hT rlo rhi h0 h1 h2 hz2 hz4
  go_enter Tryz.func5, Tryz.ntmps5
  obtain ⟨B_c0, B_c1, B_c2, -, -, -, -⟩ := id B_0.out
  obtain ⟨C_c0, C_c1, C_c2, -, -, -, -⟩ := id C_0.out
  obtain ⟨R_c0, R_c1, R_c2, -, -, -, -⟩ := id R_0.out
  go_wp2_with fail
  refine Calls.mono (CP.out _ X_0.out Y_0.out) ?_
  rintro e w1 ⟨rfl, k1⟩
  clear B_c0 B_c1 B_c2 C_c0 C_c1 C_c2 R_c0 R_c1 R_c2
  have X_1 := Lib.hid (X_0.out.keep k1)
  have Y_1 := Lib.hid (Y_0.out.keep k1)
  have T_1 := Lib.hid (T_0.out.keep k1)
  have B_1 := Lib.hid (B_0.out.keep k1)
  have C_1 := Lib.hid (C_0.out.keep k1)
  have R_1 := Lib.hid (R_0.out.keep k1)
  have KW_1 := Lib.hid (KW_0.out.trans k1)
  clear k1 X_0 Y_0 T_0 B_0 C_0 R_0 KW_0
  obtain ⟨B_c0, B_c1, B_c2, -, -, -, -⟩ := id B_1.out
  obtain ⟨C_c0, C_c1, C_c2, -, -, -, -⟩ := id C_1.out
  obtain ⟨R_c0, R_c1, R_c2, -, -, -, -⟩ := id R_1.out
  go_wp2_with fail
  refine Calls.mono (S1.out _ X_1.out) ?_
  rintro e w2 ⟨rfl, k2⟩
  clear B_c0 B_c1 B_c2 C_c0 C_c1 C_c2 R_c0 R_c1 R_c2
  have X_2 := Lib.hid (X_1.out.keep k2)
  have Y_2 := Lib.hid (Y_1.out.keep k2)
  have T_2 := Lib.hid (T_1.out.keep k2)
  have B_2 := Lib.hid (B_1.out.keep k2)
  have C_2 := Lib.hid (C_1.out.keep k2)
  have R_2 := Lib.hid (R_1.out.keep k2)
  have KW_2 := Lib.hid (KW_1.out.trans k2)
  clear k2 X_1 Y_1 T_1 B_1 C_1 R_1 KW_1
  obtain ⟨B_c0, B_c1, B_c2, -, -, -, -⟩ := id B_2.out
  obtain ⟨C_c0, C_c1, C_c2, -, -, -, -⟩ := id C_2.out
  obtain ⟨R_c0, R_c1, R_c2, -, -, -, -⟩ := id R_2.out
  go_wp2_with fail
  refine Calls.mono (S2.out _ Y_2.out) ?_
  rintro e w3 ⟨rfl, k3⟩
  clear B_c0 B_c1 B_c2 C_c0 C_c1 C_c2 R_c0 R_c1 R_c2
  have X_3 := Lib.hid (X_2.out.keep k3)
  have Y_3 := Lib.hid (Y_2.out.keep k3)
  have T_3 := Lib.hid (T_2.out.keep k3)
  have B_3 := Lib.hid (B_2.out.keep k3)
  have C_3 := Lib.hid (C_2.out.keep k3)
  have R_3 := Lib.hid (R_2.out.keep k3)
  have KW_3 := Lib.hid (KW_2.out.trans k3)
  clear k3 X_2 Y_2 T_2 B_2 C_2 R_2 KW_2
  obtain ⟨F, hkk, s0, s1, s2⟩ := put_of (w0 := w) (q := 0) (b := false) (a := none) (n := 0) (c := 0) (a' := none) (n' := 0) (c' := 0) (by decide) (by show Rd _ none 0 0 (dig 0); rw [dig_zero]; exact Rd.nil _) (by show Rd _ none 0 0 (dig 0); rw [dig_zero]; exact Rd.nil _) R_3.out KW_3.out (by omega)
  obtain ⟨_, e0, hcr, _⟩ := F
  cases e0
  have FIN := Lib.hid (show R2Post 0 (.int .i64 0) w (.returned (.tuple #[.agg #[.bool false, .slice none 0 0, .slice none 0 0], .int .i64 0])) _ from ⟨_, rfl, hcr, hkk⟩)
  obtain ⟨y0, y1, y2, f0, f1, f2, _⟩ := id R_3.out
  clear hkk hcr
  obtain ⟨B_c0, B_c1, B_c2, _, _, _, _⟩ := id B_3.out
  obtain ⟨C_c0, C_c1, C_c2, _, _, _, _⟩ := id C_3.out
  go_wp2
  refine bodyPost_ret (v := .tuple #[.agg #[.bool false, .slice none 0 0, .slice none 0 0], .int .i64 0]) (by simp [results, Tryz.results5, go_sem, s0, s1, s2]) rfl ?_
  exact FIN.out
theorem qsimplest_c {w : World} {v u : Value} {lo hi : Rat} {k : Nat} (h : Ra w v lo k) (h' : Ra w u hi k) (h1 : lo ≤ hi) (hk1 : 1 ≤ k) (hk : k < 47) (hT : Tab w) : Calls Tryz.prog 5 #[v, u] w (R2Post (smpR lo hi) (.int .i64 0) w) := by
  obtain ⟨s, a, n, c, a', n', c', N, D, rfl, _, _, _⟩ := h.form
  obtain ⟨t, b, m, g, b', m', g', M, E, rfl, _, _, _⟩ := h'.form
  unfold smpR
  by_cases h0 : 0 < lo
  · rw [if_pos h0]; exact simplest_1 h h' h1 h0 hk1 hk hT
  · rw [if_neg h0]
    by_cases h2 : hi < 0
    · rw [if_pos h2]; exact simplest_2 h h' h1 h0 h2 hk1 hk hT
    · rw [if_neg h2]; exact simplest_3 h h' h1 h0 h2 hk1 hk hT
theorem qsimplest_z {w : World} {v u : Value} {lo hi : Rat} {k : Nat} (h : Ra w v lo k) (h' : Ra w u hi k) (h1 : hi < lo) (hk1 : 1 ≤ k) (hk : k < 47) (hT : Tab w) : Calls Tryz.prog 5 #[v, u] w (R2Post 0 (.int .i64 2) w) := by
  obtain ⟨s, a, n, c, a', n', c', N, D, rfl, _, _, _⟩ := h.form
  obtain ⟨t, b, m, g, b', m', g', M, E, rfl, _, _, _⟩ := h'.form
  exact simplest_0 h h' h1 hk1 hk hT
end Go.Proofs.YtjkfnnoakjdgmaaGreatDoor
