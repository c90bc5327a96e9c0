/- Walks of layer 3: the reference, Simplest; the law of the simplest number. -/
import Derived.Test.YtjkfnnoakjdgmaaGreatDoorRZ2
import Derived.Test.YtjkfnnoakjdgmaaGreatDoorRL0
namespace Go.Proofs.YtjkfnnoakjdgmaaGreatDoor
open Go.RowKit
set_option linter.unusedVariables false
theorem rS_pos {x : Rat} (h : 0 < x) : rS x = 1 := rC_gt h
theorem rS_neg' {x : Rat} (h : x < 0) : rS x = -1 := rC_lt h
theorem rS_le {x : Rat} (h : ¬ 0 < x) : rS x ≤ 0 := by
  rcases rC_facts x 0 with f | f | f
  · rw [show rS x = rC x 0 from rfl, f.1]; decide
  · rw [show rS x = rC x 0 from rfl, f.1]; decide
  · exact absurd f.2 h
theorem rS_ge {x : Rat} (h : ¬ x < 0) : 0 ≤ rS x := by
  rcases rC_facts x 0 with f | f | f
  · exact absurd f.2 h
  · rw [show rS x = rC x 0 from rfl, f.1]; decide
  · rw [show rS x = rC x 0 from rfl, f.1]; decide
set_option maxHeartbeats 1600000 in
theorem rsmp_0 {w : World} {s t : Bool} {a a' b b' : Option Addr} {n c n' c' m g m' g' k : Nat} {lo hi : Rat} (hx : Ra w (.agg #[.bool s, .slice a n c, .slice a' n' c']) lo k) (hy : Ra w (.agg #[.bool t, .slice b m g, .slice b' m' g']) hi k) (h0 : hi < lo) (hk1 : 1 ≤ k) (hk : k < 47) :
    Calls Tryz.prog 6 #[.agg #[.bool s, .slice a n c, .slice a' n' c'], .agg #[.bool t, .slice b m g, .slice b' m' g']] w (R2Post (0) (.int .i64 2) w) := by
  obtain ⟨B_0, C_0, R_0, KW_0⟩ := op2 w s a n c a' n' c' t b m g b' m' g'
  have X_0 := Lib.hid (hx.keep KW_0.out)
  have Y_0 := Lib.hid (hy.keep KW_0.out)
  have rlo := hx.rb hk1
  have rhi := hy.rb hk1
  have CP := Lib.hid (fun w1 (hu : Ra w1 (.agg #[.bool s, .slice a n c, .slice a' n' c']) lo k) (h : Ra w1 (.agg #[.bool t, .slice b m g, .slice b' m' g']) hi k) => rqcmp_c hu h (by omega) hk1)
  have S1 := Lib.hid (fun w1 (hu : Ra w1 (.agg #[.bool s, .slice a n c, .slice a' n' c']) lo k) => rqsign_c hu (by omega))
  have S2 := Lib.hid (fun w1 (hu : Ra w1 (.agg #[.bool t, .slice b m g, .slice b' m' g']) hi k) => rqsign_c hu (by omega))
  rw [rC_gt h0] at CP
  clear hx hy rlo rhi S1 S2 h0
  go_enter Tryz.func6, Tryz.ntmps6
  obtain ⟨B_c0, B_c1, B_c2, -, -, -, -⟩ := id B_0.out
  obtain ⟨C_c0, C_c1, C_c2, -, -, -, -⟩ := id C_0.out
  obtain ⟨R_c0, R_c1, R_c2, -, -, -, -⟩ := id R_0.out
  go_wp2_with fail
  refine Calls.mono (CP.out _ X_0.out Y_0.out) ?_
  rintro e w1 ⟨rfl, k1⟩
  clear B_c0 B_c1 B_c2 C_c0 C_c1 C_c2 R_c0 R_c1 R_c2
  have X_1 := Lib.hid (X_0.out.keep k1)
  have Y_1 := Lib.hid (Y_0.out.keep k1)
  have B_1 := Lib.hid (B_0.out.keep k1)
  have C_1 := Lib.hid (C_0.out.keep k1)
  have R_1 := Lib.hid (R_0.out.keep k1)
  have KW_1 := Lib.hid (KW_0.out.trans k1)
  clear k1 X_0 Y_0 B_0 C_0 R_0 KW_0
  obtain ⟨F, hkk, s0, s1, s2⟩ := put_of (w0 := w) (q := 0) (b := false) (a := none) (n := 0) (c := 0) (a' := none) (n' := 0) (c' := 0) (by decide) (by show Rd _ none 0 0 (dig 0); rw [dig_zero]; exact Rd.nil _) (by show Rd _ none 0 0 (dig 0); rw [dig_zero]; exact Rd.nil _) R_1.out KW_1.out (by omega)
  obtain ⟨_, e0, hcr, _⟩ := F
  cases e0
  have FIN := Lib.hid (show R2Post 0 (.int .i64 2) w (.returned (.tuple #[.agg #[.bool false, .slice none 0 0, .slice none 0 0], .int .i64 2])) _ from ⟨_, rfl, hcr, hkk⟩)
  obtain ⟨y0, y1, y2, f0, f1, f2, _⟩ := id R_1.out
  clear hkk hcr
  obtain ⟨B_c0, B_c1, B_c2, _, _, _, _⟩ := id B_1.out
  obtain ⟨C_c0, C_c1, C_c2, _, _, _, _⟩ := id C_1.out
  go_wp2
  refine bodyPost_ret (v := .tuple #[.agg #[.bool false, .slice none 0 0, .slice none 0 0], .int .i64 2]) (by simp [results, Tryz.results6, go_sem, s0, s1, s2]) rfl ?_
  exact FIN.out
set_option maxHeartbeats 1600000 in
theorem rsmp_1 {w : World} {s t : Bool} {a a' b b' : Option Addr} {n c n' c' m g m' g' k : Nat} {lo hi : Rat} (hx : Ra w (.agg #[.bool s, .slice a n c, .slice a' n' c']) lo k) (hy : Ra w (.agg #[.bool t, .slice b m g, .slice b' m' g']) hi k) (h1 : lo ≤ hi) (h0 : 0 < lo) (hk1 : 1 ≤ k) (hk : k < 47) :
    Calls Tryz.prog 6 #[.agg #[.bool s, .slice a n c, .slice a' n' c'], .agg #[.bool t, .slice b m g, .slice b' m' g']] w (R2Post (smpF (lo.den + hi.den) lo hi) (.int .i64 0) w) := by
  obtain ⟨B_0, C_0, R_0, KW_0⟩ := op2 w s a n c a' n' c' t b m g b' m' g'
  have X_0 := Lib.hid (hx.keep KW_0.out)
  have Y_0 := Lib.hid (hy.keep KW_0.out)
  have rlo := hx.rb hk1
  have rhi := hy.rb hk1
  have CP := Lib.hid (fun w1 (hu : Ra w1 (.agg #[.bool s, .slice a n c, .slice a' n' c']) lo k) (h : Ra w1 (.agg #[.bool t, .slice b m g, .slice b' m' g']) hi k) => rqcmp_c hu h (by omega) hk1)
  have S1 := Lib.hid (fun w1 (hu : Ra w1 (.agg #[.bool s, .slice a n c, .slice a' n' c']) lo k) => rqsign_c hu (by omega))
  have S2 := Lib.hid (fun w1 (hu : Ra w1 (.agg #[.bool t, .slice b m g, .slice b' m' g']) hi k) => rqsign_c hu (by omega))
  obtain ⟨z, hz⟩ : ∃ z, rC lo hi = z := ⟨_, rfl⟩
  have hz1 : decide (0 < z) = false := decide_eq_false (by
    rw [← hz]; rcases rC_facts lo hi with h | h | h
    · rw [h.1]; decide
    · rw [h.1]; decide
    · exact absurd h1 (Rat.not_le.2 h.2))
  rw [hz] at CP
  clear hz
  rw [rS_pos h0] at S1
  have hhi : 0 < hi := by grind
  rw [rS_pos hhi] at S2
  have SM := Lib.hid (fun w1 (hv : Ra w1 (.agg #[.bool s, .slice a n c, .slice a' n' c']) lo k) (hu : Ra w1 (.agg #[.bool t, .slice b m g, .slice b' m' g']) hi k) => rpos_n (lo.den + hi.den) hv hu h0 h1 (Nat.le_refl _) hk1 hk)
  obtain ⟨q, hq⟩ : ∃ q, smpF (lo.den + hi.den) lo hi = q := ⟨_, rfl⟩
  rw [hq] at SM ⊢
  clear hx hy rlo rhi h0 h1 hq hhi
  go_enter Tryz.func6, Tryz.ntmps6
  obtain ⟨B_c0, B_c1, B_c2, -, -, -, -⟩ := id B_0.out
  obtain ⟨C_c0, C_c1, C_c2, -, -, -, -⟩ := id C_0.out
  obtain ⟨R_c0, R_c1, R_c2, -, -, -, -⟩ := id R_0.out
  go_wp2_with fail
  refine Calls.mono (CP.out _ X_0.out Y_0.out) ?_
  rintro e w1 ⟨rfl, k1⟩
  clear B_c0 B_c1 B_c2 C_c0 C_c1 C_c2 R_c0 R_c1 R_c2
  have X_1 := Lib.hid (X_0.out.keep k1)
  have Y_1 := Lib.hid (Y_0.out.keep k1)
  have B_1 := Lib.hid (B_0.out.keep k1)
  have C_1 := Lib.hid (C_0.out.keep k1)
  have R_1 := Lib.hid (R_0.out.keep k1)
  have KW_1 := Lib.hid (KW_0.out.trans k1)
  clear k1 X_0 Y_0 B_0 C_0 R_0 KW_0
  obtain ⟨B_c0, B_c1, B_c2, -, -, -, -⟩ := id B_1.out
  obtain ⟨C_c0, C_c1, C_c2, -, -, -, -⟩ := id C_1.out
  obtain ⟨R_c0, R_c1, R_c2, -, -, -, -⟩ := id R_1.out
  go_wp2_with fail
  refine Calls.mono (S1.out _ X_1.out) ?_
  rintro e w2 ⟨rfl, k2⟩
  clear B_c0 B_c1 B_c2 C_c0 C_c1 C_c2 R_c0 R_c1 R_c2
  have X_2 := Lib.hid (X_1.out.keep k2)
  have Y_2 := Lib.hid (Y_1.out.keep k2)
  have B_2 := Lib.hid (B_1.out.keep k2)
  have C_2 := Lib.hid (C_1.out.keep k2)
  have R_2 := Lib.hid (R_1.out.keep k2)
  have KW_2 := Lib.hid (KW_1.out.trans k2)
  clear k2 X_1 Y_1 B_1 C_1 R_1 KW_1
  obtain ⟨B_c0, B_c1, B_c2, -, -, -, -⟩ := id B_2.out
  obtain ⟨C_c0, C_c1, C_c2, -, -, -, -⟩ := id C_2.out
  obtain ⟨R_c0, R_c1, R_c2, -, -, -, -⟩ := id R_2.out
  go_wp2_with fail
  refine Calls.mono (S2.out _ Y_2.out) ?_
  rintro e w3 ⟨rfl, k3⟩
  clear B_c0 B_c1 B_c2 C_c0 C_c1 C_c2 R_c0 R_c1 R_c2
  have X_3 := Lib.hid (X_2.out.keep k3)
  have Y_3 := Lib.hid (Y_2.out.keep k3)
  have B_3 := Lib.hid (B_2.out.keep k3)
  have C_3 := Lib.hid (C_2.out.keep k3)
  have R_3 := Lib.hid (R_2.out.keep k3)
  have KW_3 := Lib.hid (KW_2.out.trans k3)
  clear k3 X_2 Y_2 B_2 C_2 R_2 KW_2
  obtain ⟨B_c0, B_c1, B_c2, -, -, -, -⟩ := id B_3.out
  obtain ⟨C_c0, C_c1, C_c2, -, -, -, -⟩ := id C_3.out
  obtain ⟨R_c0, R_c1, R_c2, -, -, -, -⟩ := id R_3.out
  go_wp2_with fail
  refine Calls.mono (SM.out _ X_3.out Y_3.out) ?_
  rintro e wz ⟨u, rfl, hu, kz⟩
  clear B_c0 B_c1 B_c2 C_c0 C_c1 C_c2 R_c0 R_c1 R_c2
  obtain ⟨b0, a0, n0, c0, a1, n1, c1, rfl, hcr, hkk, f0, f1, f2, g0, g1, g2, s0, s1, s2⟩ := hu.put (R_3.out.keep kz) (KW_3.out.trans kz) (by omega)
  have FIN := Lib.hid (show R2Post q (.int .i64 0) w (.returned (.tuple #[.agg #[.bool b0, .slice a0 n0 c0, .slice a1 n1 c1], .int .i64 0])) _ from ⟨_, rfl, hcr, hkk⟩)
  clear hcr hkk hu kz KW_3 X_3 Y_3 B_3 C_3 R_3
  go_wp2
  refine bodyPost_ret (v := .tuple #[.agg #[.bool b0, .slice a0 n0 c0, .slice a1 n1 c1], .int .i64 0]) (by simp [results, Tryz.results6, go_sem, s0, s1, s2]) rfl ?_
  exact FIN.out
set_option maxHeartbeats 1600000 in
theorem rsmp_2 {w : World} {s t : Bool} {a a' b b' : Option Addr} {n c n' c' m g m' g' k : Nat} {lo hi : Rat} (hx : Ra w (.agg #[.bool s, .slice a n c, .slice a' n' c']) lo k) (hy : Ra w (.agg #[.bool t, .slice b m g, .slice b' m' g']) hi k) (h1 : lo ≤ hi) (h0 : ¬ 0 < lo) (h2 : hi < 0) (hk1 : 1 ≤ k) (hk : k < 47) :
    Calls Tryz.prog 6 #[.agg #[.bool s, .slice a n c, .slice a' n' c'], .agg #[.bool t, .slice b m g, .slice b' m' g']] w (R2Post (-smpF (hi.den + lo.den) (-hi) (-lo)) (.int .i64 0) w) := by
  obtain ⟨B_0, C_0, R_0, KW_0⟩ := op2 w s a n c a' n' c' t b m g b' m' g'
  have X_0 := Lib.hid (hx.keep KW_0.out)
  have Y_0 := Lib.hid (hy.keep KW_0.out)
  have rlo := hx.rb hk1
  have rhi := hy.rb hk1
  have CP := Lib.hid (fun w1 (hu : Ra w1 (.agg #[.bool s, .slice a n c, .slice a' n' c']) lo k) (h : Ra w1 (.agg #[.bool t, .slice b m g, .slice b' m' g']) hi k) => rqcmp_c hu h (by omega) hk1)
  have S1 := Lib.hid (fun w1 (hu : Ra w1 (.agg #[.bool s, .slice a n c, .slice a' n' c']) lo k) => rqsign_c hu (by omega))
  have S2 := Lib.hid (fun w1 (hu : Ra w1 (.agg #[.bool t, .slice b m g, .slice b' m' g']) hi k) => rqsign_c hu (by omega))
  obtain ⟨z, hz⟩ : ∃ z, rC lo hi = z := ⟨_, rfl⟩
  have hz1 : decide (0 < z) = false := decide_eq_false (by
    rw [← hz]; rcases rC_facts lo hi with h | h | h
    · rw [h.1]; decide
    · rw [h.1]; decide
    · exact absurd h1 (Rat.not_le.2 h.2))
  rw [hz] at CP
  clear hz
  have hl := rS_le h0
  obtain ⟨z2, hz2⟩ : ∃ z, rS lo = z := ⟨_, rfl⟩
  rw [hz2] at S1 hl
  have hz3 : decide (z2 ≤ 0) = true := decide_eq_true hl
  rw [rS_neg' h2] at S2
  have p0 : 0 < -hi := by grind
  have p1 : -hi ≤ -lo := by grind
  have IS := smp_is (hi.den + lo.den) p0 p1 (Nat.le_refl _)
  have rs := smp_rb p0 IS p1 rhi.neg
  have CX := Lib.hid (fun w1 (hu : Ra w1 (.agg #[.bool s, .slice a n c, .slice a' n' c']) lo k) => rneg_c hu (by omega) hk1)
  have CY := Lib.hid (fun w1 (hu : Ra w1 (.agg #[.bool t, .slice b m g, .slice b' m' g']) hi k) => rneg_c hu (by omega) hk1)
  have SM := Lib.hid (fun w1 v u (hv : Cr w1 v (-hi)) (hu : Cr w1 u (-lo)) => rpos_n (hi.den + lo.den) (hv.ra rhi.neg) (hu.ra rlo.neg) p0 p1 (Nat.le_refl _) hk1 hk)
  have NG := Lib.hid (fun w1 v (hv : Cr w1 v (smpF (hi.den + lo.den) (-hi) (-lo))) => rneg_c (hv.ra rs) (by omega) hk1)
  obtain ⟨q, hq⟩ : ∃ q, smpF (hi.den + lo.den) (-hi) (-lo) = q := ⟨_, rfl⟩
  rw [hq] at SM NG ⊢
  clear hx hy rlo rhi h0 h1 h2 hz2 hl hq IS rs p0 p1
  go_enter Tryz.func6, Tryz.ntmps6
  obtain ⟨B_c0, B_c1, B_c2, -, -, -, -⟩ := id B_0.out
  obtain ⟨C_c0, C_c1, C_c2, -, -, -, -⟩ := id C_0.out
  obtain ⟨R_c0, R_c1, R_c2, -, -, -, -⟩ := id R_0.out
  go_wp2_with fail
  refine Calls.mono (CP.out _ X_0.out Y_0.out) ?_
  rintro e w1 ⟨rfl, k1⟩
  clear B_c0 B_c1 B_c2 C_c0 C_c1 C_c2 R_c0 R_c1 R_c2
  have X_1 := Lib.hid (X_0.out.keep k1)
  have Y_1 := Lib.hid (Y_0.out.keep k1)
  have B_1 := Lib.hid (B_0.out.keep k1)
  have C_1 := Lib.hid (C_0.out.keep k1)
  have R_1 := Lib.hid (R_0.out.keep k1)
  have KW_1 := Lib.hid (KW_0.out.trans k1)
  clear k1 X_0 Y_0 B_0 C_0 R_0 KW_0
  obtain ⟨B_c0, B_c1, B_c2, -, -, -, -⟩ := id B_1.out
  obtain ⟨C_c0, C_c1, C_c2, -, -, -, -⟩ := id C_1.out
  obtain ⟨R_c0, R_c1, R_c2, -, -, -, -⟩ := id R_1.out
  go_wp2_with fail
  refine Calls.mono (S1.out _ X_1.out) ?_
  rintro e w2 ⟨rfl, k2⟩
  clear B_c0 B_c1 B_c2 C_c0 C_c1 C_c2 R_c0 R_c1 R_c2
  have X_2 := Lib.hid (X_1.out.keep k2)
  have Y_2 := Lib.hid (Y_1.out.keep k2)
  have B_2 := Lib.hid (B_1.out.keep k2)
  have C_2 := Lib.hid (C_1.out.keep k2)
  have R_2 := Lib.hid (R_1.out.keep k2)
  have KW_2 := Lib.hid (KW_1.out.trans k2)
  clear k2 X_1 Y_1 B_1 C_1 R_1 KW_1
  obtain ⟨B_c0, B_c1, B_c2, -, -, -, -⟩ := id B_2.out
  obtain ⟨C_c0, C_c1, C_c2, -, -, -, -⟩ := id C_2.out
  obtain ⟨R_c0, R_c1, R_c2, -, -, -, -⟩ := id R_2.out
  go_wp2_with fail
  refine Calls.mono (S2.out _ Y_2.out) ?_
  rintro e w3 ⟨rfl, k3⟩
  clear B_c0 B_c1 B_c2 C_c0 C_c1 C_c2 R_c0 R_c1 R_c2
  have X_3 := Lib.hid (X_2.out.keep k3)
  have Y_3 := Lib.hid (Y_2.out.keep k3)
  have B_3 := Lib.hid (B_2.out.keep k3)
  have C_3 := Lib.hid (C_2.out.keep k3)
  have R_3 := Lib.hid (R_2.out.keep k3)
  have KW_3 := Lib.hid (KW_2.out.trans k3)
  clear k3 X_2 Y_2 B_2 C_2 R_2 KW_2
  obtain ⟨B_c0, B_c1, B_c2, -, -, -, -⟩ := id B_3.out
  obtain ⟨C_c0, C_c1, C_c2, -, -, -, -⟩ := id C_3.out
  obtain ⟨R_c0, R_c1, R_c2, -, -, -, -⟩ := id R_3.out
  go_wp2_with fail
  refine Calls.mono (S2.out _ Y_3.out) ?_
  rintro e w4 ⟨rfl, k4⟩
  clear B_c0 B_c1 B_c2 C_c0 C_c1 C_c2 R_c0 R_c1 R_c2
  have X_4 := Lib.hid (X_3.out.keep k4)
  have Y_4 := Lib.hid (Y_3.out.keep k4)
  have B_4 := Lib.hid (B_3.out.keep k4)
  have C_4 := Lib.hid (C_3.out.keep k4)
  have R_4 := Lib.hid (R_3.out.keep k4)
  have KW_4 := Lib.hid (KW_3.out.trans k4)
  clear k4 X_3 Y_3 B_3 C_3 R_3 KW_3
  obtain ⟨oB_0, oB_1, oB_2, -, -, -, -⟩ := id B_4.out
  obtain ⟨oC_0, oC_1, oC_2, -, -, -, -⟩ := id C_4.out
  obtain ⟨oR_0, oR_1, oR_2, -, -, -, -⟩ := id R_4.out
  have X_5 := Lib.hid (X_4.out.keep (keep_drew _))
  clear X_4
  have Y_5 := Lib.hid (Y_4.out.keep (keep_drew _))
  clear Y_4
  have B_5 := Lib.hid (B_4.out.keep (keep_drew _))
  clear B_4
  have C_5 := Lib.hid (C_4.out.keep (keep_drew _))
  clear C_4
  have R_5 := Lib.hid (R_4.out.keep (keep_drew _))
  clear R_4
  have KW_5 := Lib.hid (KW_4.out.trans (keep_drew _))
  clear KW_4
  obtain ⟨cC_5_0, cC_5_1, cC_5_2, -, -, -, -⟩ := id C_5.out
  obtain ⟨cB_5_0, cB_5_1, cB_5_2, -, -, -, -⟩ := id B_5.out
  go_wp2
  go_region_held3 (fun w' => w'.cell? ⟨w.heap.size + 1, 0, none⟩ = some (.bool t) ∧ w'.cell? ⟨w.heap.size + 1, 1, none⟩ = some (.slice b m g) ∧ w'.cell? ⟨w.heap.size + 1, 2, none⟩ = some (.slice b' m' g') ∧ w'.cell? ⟨w.heap.size, 0, none⟩ = some (.bool s) ∧ w'.cell? ⟨w.heap.size, 1, none⟩ = some (.slice a n c) ∧ w'.cell? ⟨w.heap.size, 2, none⟩ = some (.slice a' n' c')) (first | exact ⟨yC_0, yC_1, yC_2, yB_0, yB_1, yB_2⟩ | exact ⟨zC_0, zC_1, zC_2, zB_0, zB_1, zB_2⟩ | exact ⟨cC_8_0, cC_8_1, cC_8_2, cB_8_0, cB_8_1, cB_8_2⟩ | exact ⟨cC_7_0, cC_7_1, cC_7_2, cB_7_0, cB_7_1, cB_7_2⟩ | exact ⟨cC_6_0, cC_6_1, cC_6_2, cB_6_0, cB_6_1, cB_6_2⟩ | exact ⟨cC_5_0, cC_5_1, cC_5_2, cB_5_0, cB_5_1, cB_5_2⟩ | go_keep)
    (first
      | (go_at_call_of 20 (x3); ((with_reducible refine Calls.mono (NG.out _ _ S_8.out) ?_); rintro e wz ⟨u, rfl, hu, kz⟩; obtain ⟨b0, a0, n0, c0, a1, n1, c1, rfl, hcr, hkk, f0, f1, f2, g0, g1, g2, s0, s1, s2⟩ := hu.put (R_8.out.keep kz) (KW_8.out.trans kz) (by omega); have FIN := Lib.hid (show R2Post (-q) (.int .i64 0) w (.returned (.tuple #[.agg #[.bool b0, .slice a0 n0 c0, .slice a1 n1 c1], .int .i64 0])) _ from ⟨_, rfl, hcr, hkk⟩); have YC := (C_8.out.keep kz).other3 (g := w.heap.size + 1 + 1) (by omega) (.bool b0) (.slice a0 n0 c0) (.slice a1 n1 c1); obtain ⟨yC_0, yC_1, yC_2, -, -, -, -⟩ := YC; obtain ⟨zC_0, zC_1, zC_2, -, -, -, -⟩ := C_8.out.keep kz; have YB := (B_8.out.keep kz).other3 (g := w.heap.size + 1 + 1) (by omega) (.bool b0) (.slice a0 n0 c0) (.slice a1 n1 c1); obtain ⟨yB_0, yB_1, yB_2, -, -, -, -⟩ := YB; obtain ⟨zB_0, zB_1, zB_2, -, -, -, -⟩ := B_8.out.keep kz; clear hcr hkk hu kz))
      | (go_at_call 21; ((with_reducible refine Calls.mono (SM.out _ _ _ P_7.out Q_7.out) ?_); rintro e w8 ⟨x3, rfl, hS, k8⟩; have X_8 := Lib.hid (X_7.out.keep k8); have Y_8 := Lib.hid (Y_7.out.keep k8); have B_8 := Lib.hid (B_7.out.keep k8); have C_8 := Lib.hid (C_7.out.keep k8); have R_8 := Lib.hid (R_7.out.keep k8); have P_8 := Lib.hid (P_7.out.keep k8); have Q_8 := Lib.hid (Q_7.out.keep k8); have S_8 := Lib.hid hS; clear hS; have KW_8 := Lib.hid (KW_7.out.trans k8); obtain ⟨cC_8_0, cC_8_1, cC_8_2, -, -, -, -⟩ := id C_8.out; obtain ⟨cB_8_0, cB_8_1, cB_8_2, -, -, -, -⟩ := id B_8.out; clear k8))
      | (go_at_call_of 20 (Value.agg #[Value.bool s, Value.slice a n c, Value.slice a' n' c']); ((with_reducible refine Calls.mono (CX.out _ X_6.out) ?_); rintro e w7 ⟨x2, rfl, hQ, k7⟩; have X_7 := Lib.hid (X_6.out.keep k7); have Y_7 := Lib.hid (Y_6.out.keep k7); have B_7 := Lib.hid (B_6.out.keep k7); have C_7 := Lib.hid (C_6.out.keep k7); have R_7 := Lib.hid (R_6.out.keep k7); have P_7 := Lib.hid (P_6.out.keep k7); have Q_7 := Lib.hid hQ; clear hQ; have KW_7 := Lib.hid (KW_6.out.trans k7); obtain ⟨cC_7_0, cC_7_1, cC_7_2, -, -, -, -⟩ := id C_7.out; obtain ⟨cB_7_0, cB_7_1, cB_7_2, -, -, -, -⟩ := id B_7.out; clear k7))
      | (go_at_call_of 20 (Value.agg #[Value.bool t, Value.slice b m g, Value.slice b' m' g']); ((with_reducible refine Calls.mono (CY.out _ Y_5.out) ?_); rintro e w6 ⟨x1, rfl, hP, k6⟩; have X_6 := Lib.hid (X_5.out.keep k6); have Y_6 := Lib.hid (Y_5.out.keep k6); have B_6 := Lib.hid (B_5.out.keep k6); have C_6 := Lib.hid (C_5.out.keep k6); have R_6 := Lib.hid (R_5.out.keep k6); have P_6 := Lib.hid hP; clear hP; have KW_6 := Lib.hid (KW_5.out.trans k6); obtain ⟨cC_6_0, cC_6_1, cC_6_2, -, -, -, -⟩ := id C_6.out; obtain ⟨cB_6_0, cB_6_1, cB_6_2, -, -, -, -⟩ := id B_6.out; clear k6)))
  all_goals
    go_wp2
    refine bodyPost_ret (v := .tuple #[.agg #[.bool b0, .slice a0 n0 c0, .slice a1 n1 c1], .int .i64 0]) (by simp [results, Tryz.results6, go_sem, s0, s1, s2]) rfl ?_
    exact FIN.out
set_option maxHeartbeats 1600000 in
theorem rsmp_3 {w : World} {s t : Bool} {a a' b b' : Option Addr} {n c n' c' m g m' g' k : Nat} {lo hi : Rat} (hx : Ra w (.agg #[.bool s, .slice a n c, .slice a' n' c']) lo k) (hy : Ra w (.agg #[.bool t, .slice b m g, .slice b' m' g']) hi k) (h1 : lo ≤ hi) (h0 : ¬ 0 < lo) (h2 : ¬ hi < 0) (hk1 : 1 ≤ k) (hk : k < 47) :
    Calls Tryz.prog 6 #[.agg #[.bool s, .slice a n c, .slice a' n' c'], .agg #[.bool t, .slice b m g, .slice b' m' g']] w (R2Post (0) (.int .i64 0) w) := by
  obtain ⟨B_0, C_0, R_0, KW_0⟩ := op2 w s a n c a' n' c' t b m g b' m' g'
  have X_0 := Lib.hid (hx.keep KW_0.out)
  have Y_0 := Lib.hid (hy.keep KW_0.out)
  have rlo := hx.rb hk1
  have rhi := hy.rb hk1
  have CP := Lib.hid (fun w1 (hu : Ra w1 (.agg #[.bool s, .slice a n c, .slice a' n' c']) lo k) (h : Ra w1 (.agg #[.bool t, .slice b m g, .slice b' m' g']) hi k) => rqcmp_c hu h (by omega) hk1)
  have S1 := Lib.hid (fun w1 (hu : Ra w1 (.agg #[.bool s, .slice a n c, .slice a' n' c']) lo k) => rqsign_c hu (by omega))
  have S2 := Lib.hid (fun w1 (hu : Ra w1 (.agg #[.bool t, .slice b m g, .slice b' m' g']) hi k) => rqsign_c hu (by omega))
  obtain ⟨z, hz⟩ : ∃ z, rC lo hi = z := ⟨_, rfl⟩
  have hz1 : decide (0 < z) = false := decide_eq_false (by
    rw [← hz]; rcases rC_facts lo hi with h | h | h
    · rw [h.1]; decide
    · rw [h.1]; decide
    · exact absurd h1 (Rat.not_le.2 h.2))
  rw [hz] at CP
  clear hz
  have hl := rS_le h0
  have hh := rS_ge h2
  obtain ⟨z2, hz2⟩ : ∃ z, rS lo = z := ⟨_, rfl⟩
  rw [hz2] at S1 hl
  have hz3 : decide (z2 ≤ 0) = true := decide_eq_true hl
  obtain ⟨z3, hz4⟩ : ∃ z, rS hi = z := ⟨_, rfl⟩
  rw [hz4] at S2 hh
  have hz5 : decide (0 ≤ z3) = true := decide_eq_true hh
  clear hx hy rlo rhi h0 h1 h2 hz2 hz4 hl hh
  go_enter Tryz.func6, Tryz.ntmps6
  obtain ⟨B_c0, B_c1, B_c2, -, -, -, -⟩ := id B_0.out
  obtain ⟨C_c0, C_c1, C_c2, -, -, -, -⟩ := id C_0.out
  obtain ⟨R_c0, R_c1, R_c2, -, -, -, -⟩ := id R_0.out
  go_wp2_with fail
  refine Calls.mono (CP.out _ X_0.out Y_0.out) ?_
  rintro e w1 ⟨rfl, k1⟩
  clear B_c0 B_c1 B_c2 C_c0 C_c1 C_c2 R_c0 R_c1 R_c2
  have X_1 := Lib.hid (X_0.out.keep k1)
  have Y_1 := Lib.hid (Y_0.out.keep k1)
  have B_1 := Lib.hid (B_0.out.keep k1)
  have C_1 := Lib.hid (C_0.out.keep k1)
  have R_1 := Lib.hid (R_0.out.keep k1)
  have KW_1 := Lib.hid (KW_0.out.trans k1)
  clear k1 X_0 Y_0 B_0 C_0 R_0 KW_0
  obtain ⟨B_c0, B_c1, B_c2, -, -, -, -⟩ := id B_1.out
  obtain ⟨C_c0, C_c1, C_c2, -, -, -, -⟩ := id C_1.out
  obtain ⟨R_c0, R_c1, R_c2, -, -, -, -⟩ := id R_1.out
  go_wp2_with fail
  refine Calls.mono (S1.out _ X_1.out) ?_
  rintro e w2 ⟨rfl, k2⟩
  clear B_c0 B_c1 B_c2 C_c0 C_c1 C_c2 R_c0 R_c1 R_c2
  have X_2 := Lib.hid (X_1.out.keep k2)
  have Y_2 := Lib.hid (Y_1.out.keep k2)
  have B_2 := Lib.hid (B_1.out.keep k2)
  have C_2 := Lib.hid (C_1.out.keep k2)
  have R_2 := Lib.hid (R_1.out.keep k2)
  have KW_2 := Lib.hid (KW_1.out.trans k2)
  clear k2 X_1 Y_1 B_1 C_1 R_1 KW_1
  obtain ⟨B_c0, B_c1, B_c2, -, -, -, -⟩ := id B_2.out
  obtain ⟨C_c0, C_c1, C_c2, -, -, -, -⟩ := id C_2.out
  obtain ⟨R_c0, R_c1, R_c2, -, -, -, -⟩ := id R_2.out
  go_wp2_with fail
  refine Calls.mono (S2.out _ Y_2.out) ?_
  rintro e w3 ⟨rfl, k3⟩
  clear B_c0 B_c1 B_c2 C_c0 C_c1 C_c2 R_c0 R_c1 R_c2
  have X_3 := Lib.hid (X_2.out.keep k3)
  have Y_3 := Lib.hid (Y_2.out.keep k3)
  have B_3 := Lib.hid (B_2.out.keep k3)
  have C_3 := Lib.hid (C_2.out.keep k3)
  have R_3 := Lib.hid (R_2.out.keep k3)
  have KW_3 := Lib.hid (KW_2.out.trans k3)
  clear k3 X_2 Y_2 B_2 C_2 R_2 KW_2
  obtain ⟨F, hkk, s0, s1, s2⟩ := put_of (w0 := w) (q := 0) (b := false) (a := none) (n := 0) (c := 0) (a' := none) (n' := 0) (c' := 0) (by decide) (by show Rd _ none 0 0 (dig 0); rw [dig_zero]; exact Rd.nil _) (by show Rd _ none 0 0 (dig 0); rw [dig_zero]; exact Rd.nil _) R_3.out KW_3.out (by omega)
  obtain ⟨_, e0, hcr, _⟩ := F
  cases e0
  have FIN := Lib.hid (show R2Post 0 (.int .i64 0) w (.returned (.tuple #[.agg #[.bool false, .slice none 0 0, .slice none 0 0], .int .i64 0])) _ from ⟨_, rfl, hcr, hkk⟩)
  obtain ⟨y0, y1, y2, f0, f1, f2, _⟩ := id R_3.out
  clear hkk hcr
  obtain ⟨B_c0, B_c1, B_c2, _, _, _, _⟩ := id B_3.out
  obtain ⟨C_c0, C_c1, C_c2, _, _, _, _⟩ := id C_3.out
  go_wp2
  refine bodyPost_ret (v := .tuple #[.agg #[.bool false, .slice none 0 0, .slice none 0 0], .int .i64 0]) (by simp [results, Tryz.results6, go_sem, s0, s1, s2]) rfl ?_
  exact FIN.out
theorem rsimplest_c {w : World} {v u : Value} {lo hi : Rat} {k : Nat} (h : Ra w v lo k) (h' : Ra w u hi k) (h1 : lo ≤ hi) (hk1 : 1 ≤ k) (hk : k < 47) : Calls Tryz.prog 6 #[v, u] w (R2Post (smpR lo hi) (.int .i64 0) w) := by
  obtain ⟨s, a, n, c, a', n', c', N, D, rfl, _, _, _⟩ := h.form
  obtain ⟨t, b, m, g, b', m', g', M, E, rfl, _, _, _⟩ := h'.form
  unfold smpR
  by_cases h0 : 0 < lo
  · rw [if_pos h0]; exact rsmp_1 h h' h1 h0 hk1 hk
  · rw [if_neg h0]
    by_cases h2 : hi < 0
    · rw [if_pos h2]; exact rsmp_2 h h' h1 h0 h2 hk1 hk
    · rw [if_neg h2]; exact rsmp_3 h h' h1 h0 h2 hk1 hk
theorem rsimplest_z {w : World} {v u : Value} {lo hi : Rat} {k : Nat} (h : Ra w v lo k) (h' : Ra w u hi k) (h1 : hi < lo) (hk1 : 1 ≤ k) (hk : k < 47) : Calls Tryz.prog 6 #[v, u] w (R2Post 0 (.int .i64 2) w) := by
  obtain ⟨s, a, n, c, a', n', c', N, D, rfl, _, _, _⟩ := h.form
  obtain ⟨t, b, m, g, b', m', g', M, E, rfl, _, _, _⟩ := h'.form
  exact rsmp_0 h h' h1 hk1 hk
theorem ops2 (w : World) (s : Bool) (a : Option Addr) (n c : Nat) (a' : Option Addr) (n' c' : Nat) (t : Bool) (b : Option Addr) (m g : Nat) (b' : Option Addr) (m' g' : Nat) : Hid (QBox (w.heap.size) (.bool s) (.slice a n c) (.slice a' n' c') ((w.alloc (.cells #[.bool s, .slice a n c, .slice a' n' c'] 25)).alloc (.cells #[.bool t, .slice b m g, .slice b' m' g'] 25))) ∧ Hid (QBox (w.heap.size + 1) (.bool t) (.slice b m g) (.slice b' m' g') ((w.alloc (.cells #[.bool s, .slice a n c, .slice a' n' c'] 25)).alloc (.cells #[.bool t, .slice b m g, .slice b' m' g'] 25))) ∧ Hid (Keep w ((w.alloc (.cells #[.bool s, .slice a n c, .slice a' n' c'] 25)).alloc (.cells #[.bool t, .slice b m g, .slice b' m' g'] 25))) :=
  ⟨Lib.hid ((QBox.new w s a n c a' n' c').keep ((Keep.refl _).alloc _)), Lib.hid ((QBox.new (w.alloc _) t b m g b' m' g').at (sz1 _ _)), Lib.hid (((Keep.refl w).alloc _).alloc _)⟩
set_option maxHeartbeats 4000000 in
theorem smp_law_b0 {w : World} {s : Bool} {a a' : Option Addr} {n c n' c' : Nat} {lx lx' : List Nat} {t : Bool} {b b' : Option Addr} {m g m' g' : Nat} {ly ly' : List Nat} (hx : Rd w a n c lx) (hx' : Rd w a' n' c' lx') (hy : Rd w b m g ly) (hy' : Rd w b' m' g' ly') (hT : Tab w)  (f0 : 2 < n) : Calls Tryz.prog 3 #[.agg #[.bool s, .slice a n c, .slice a' n' c'], .agg #[.bool t, .slice b m g, .slice b' m' g']] w (BPost true w) := by
  obtain ⟨B_0, C_0, KW_0⟩ := ops2 w s a n c a' n' c' t b m g b' m' g'
  have T_0 := Lib.hid (hT.keep KW_0.out)
  have AW := Lib.hid (fun w1 (hT1 : Tab w1) => awake_c w1 hT1)
  have q00 := hx.le_cap
  have q01 := hx.cap_le
  have q02 := hx'.le_cap
  have q03 := hx'.cap_le
  have q10 := hy.le_cap
  have q11 := hy.cap_le
  have q12 := hy'.le_cap
  have q13 := hy'.cap_le
  have d0 : decide ((2 : Int) < (n : Int)) = true := decide_eq_true (by omega)
  clear hT hx hx' hy hy'
  go_enter Tryz.func3, Tryz.ntmps3
  obtain ⟨B_c0, B_c1, B_c2, -, -, -, -⟩ := id B_0.out
  obtain ⟨C_c0, C_c1, C_c2, -, -, -, -⟩ := id C_0.out
  go_wp2_with fail
  refine Calls.mono (AW.out _ T_0.out) ?_
  rintro e w1 ⟨rfl, k1⟩
  clear B_c0 B_c1 B_c2 C_c0 C_c1 C_c2
  have T_1 := Lib.hid (T_0.out.keep k1)
  have B_1 := Lib.hid (B_0.out.keep k1)
  have C_1 := Lib.hid (C_0.out.keep k1)
  have KW_1 := Lib.hid (KW_0.out.trans k1)
  clear k1 T_0 B_0 C_0 KW_0
  obtain ⟨B_c0, B_c1, B_c2, -, -, -, -⟩ := id B_1.out
  obtain ⟨C_c0, C_c1, C_c2, -, -, -, -⟩ := id C_1.out
  go_wp2_with fail
  go_ret
  exact ⟨rfl, KW_1.out⟩
set_option maxHeartbeats 4000000 in
theorem smp_law_b1 {w : World} {s : Bool} {a a' : Option Addr} {n c n' c' : Nat} {lx lx' : List Nat} {t : Bool} {b b' : Option Addr} {m g m' g' : Nat} {ly ly' : List Nat} (hx : Rd w a n c lx) (hx' : Rd w a' n' c' lx') (hy : Rd w b m g ly) (hy' : Rd w b' m' g' ly') (hT : Tab w) (f0 : n ≤ 2) (f1 : 2 < n') : Calls Tryz.prog 3 #[.agg #[.bool s, .slice a n c, .slice a' n' c'], .agg #[.bool t, .slice b m g, .slice b' m' g']] w (BPost true w) := by
  obtain ⟨B_0, C_0, KW_0⟩ := ops2 w s a n c a' n' c' t b m g b' m' g'
  have T_0 := Lib.hid (hT.keep KW_0.out)
  have AW := Lib.hid (fun w1 (hT1 : Tab w1) => awake_c w1 hT1)
  have q00 := hx.le_cap
  have q01 := hx.cap_le
  have q02 := hx'.le_cap
  have q03 := hx'.cap_le
  have q10 := hy.le_cap
  have q11 := hy.cap_le
  have q12 := hy'.le_cap
  have q13 := hy'.cap_le
  have d0 : decide ((2 : Int) < (n : Int)) = false := decide_eq_false (by omega)
  have d1 : decide ((2 : Int) < (n' : Int)) = true := decide_eq_true (by omega)
  clear hT hx hx' hy hy'
  go_enter Tryz.func3, Tryz.ntmps3
  obtain ⟨B_c0, B_c1, B_c2, -, -, -, -⟩ := id B_0.out
  obtain ⟨C_c0, C_c1, C_c2, -, -, -, -⟩ := id C_0.out
  go_wp2_with fail
  refine Calls.mono (AW.out _ T_0.out) ?_
  rintro e w1 ⟨rfl, k1⟩
  clear B_c0 B_c1 B_c2 C_c0 C_c1 C_c2
  have T_1 := Lib.hid (T_0.out.keep k1)
  have B_1 := Lib.hid (B_0.out.keep k1)
  have C_1 := Lib.hid (C_0.out.keep k1)
  have KW_1 := Lib.hid (KW_0.out.trans k1)
  clear k1 T_0 B_0 C_0 KW_0
  obtain ⟨B_c0, B_c1, B_c2, -, -, -, -⟩ := id B_1.out
  obtain ⟨C_c0, C_c1, C_c2, -, -, -, -⟩ := id C_1.out
  go_wp2_with fail
  go_ret
  exact ⟨rfl, KW_1.out⟩
set_option maxHeartbeats 4000000 in
theorem smp_law_b2 {w : World} {s : Bool} {a a' : Option Addr} {n c n' c' : Nat} {lx lx' : List Nat} {t : Bool} {b b' : Option Addr} {m g m' g' : Nat} {ly ly' : List Nat} (hx : Rd w a n c lx) (hx' : Rd w a' n' c' lx') (hy : Rd w b m g ly) (hy' : Rd w b' m' g' ly') (hT : Tab w) (f0 : n ≤ 2) (f1 : n' ≤ 2) (f2 : 2 < m) : Calls Tryz.prog 3 #[.agg #[.bool s, .slice a n c, .slice a' n' c'], .agg #[.bool t, .slice b m g, .slice b' m' g']] w (BPost true w) := by
  obtain ⟨B_0, C_0, KW_0⟩ := ops2 w s a n c a' n' c' t b m g b' m' g'
  have T_0 := Lib.hid (hT.keep KW_0.out)
  have AW := Lib.hid (fun w1 (hT1 : Tab w1) => awake_c w1 hT1)
  have q00 := hx.le_cap
  have q01 := hx.cap_le
  have q02 := hx'.le_cap
  have q03 := hx'.cap_le
  have q10 := hy.le_cap
  have q11 := hy.cap_le
  have q12 := hy'.le_cap
  have q13 := hy'.cap_le
  have d0 : decide ((2 : Int) < (n : Int)) = false := decide_eq_false (by omega)
  have d1 : decide ((2 : Int) < (n' : Int)) = false := decide_eq_false (by omega)
  have d2 : decide ((2 : Int) < (m : Int)) = true := decide_eq_true (by omega)
  clear hT hx hx' hy hy'
  go_enter Tryz.func3, Tryz.ntmps3
  obtain ⟨B_c0, B_c1, B_c2, -, -, -, -⟩ := id B_0.out
  obtain ⟨C_c0, C_c1, C_c2, -, -, -, -⟩ := id C_0.out
  go_wp2_with fail
  refine Calls.mono (AW.out _ T_0.out) ?_
  rintro e w1 ⟨rfl, k1⟩
  clear B_c0 B_c1 B_c2 C_c0 C_c1 C_c2
  have T_1 := Lib.hid (T_0.out.keep k1)
  have B_1 := Lib.hid (B_0.out.keep k1)
  have C_1 := Lib.hid (C_0.out.keep k1)
  have KW_1 := Lib.hid (KW_0.out.trans k1)
  clear k1 T_0 B_0 C_0 KW_0
  obtain ⟨B_c0, B_c1, B_c2, -, -, -, -⟩ := id B_1.out
  obtain ⟨C_c0, C_c1, C_c2, -, -, -, -⟩ := id C_1.out
  go_wp2_with fail
  go_ret
  exact ⟨rfl, KW_1.out⟩
set_option maxHeartbeats 4000000 in
theorem smp_law_b3 {w : World} {s : Bool} {a a' : Option Addr} {n c n' c' : Nat} {lx lx' : List Nat} {t : Bool} {b b' : Option Addr} {m g m' g' : Nat} {ly ly' : List Nat} (hx : Rd w a n c lx) (hx' : Rd w a' n' c' lx') (hy : Rd w b m g ly) (hy' : Rd w b' m' g' ly') (hT : Tab w) (f0 : n ≤ 2) (f1 : n' ≤ 2) (f2 : m ≤ 2) (f3 : 2 < m') : Calls Tryz.prog 3 #[.agg #[.bool s, .slice a n c, .slice a' n' c'], .agg #[.bool t, .slice b m g, .slice b' m' g']] w (BPost true w) := by
  obtain ⟨B_0, C_0, KW_0⟩ := ops2 w s a n c a' n' c' t b m g b' m' g'
  have T_0 := Lib.hid (hT.keep KW_0.out)
  have AW := Lib.hid (fun w1 (hT1 : Tab w1) => awake_c w1 hT1)
  have q00 := hx.le_cap
  have q01 := hx.cap_le
  have q02 := hx'.le_cap
  have q03 := hx'.cap_le
  have q10 := hy.le_cap
  have q11 := hy.cap_le
  have q12 := hy'.le_cap
  have q13 := hy'.cap_le
  have d0 : decide ((2 : Int) < (n : Int)) = false := decide_eq_false (by omega)
  have d1 : decide ((2 : Int) < (n' : Int)) = false := decide_eq_false (by omega)
  have d2 : decide ((2 : Int) < (m : Int)) = false := decide_eq_false (by omega)
  have d3 : decide ((2 : Int) < (m' : Int)) = true := decide_eq_true (by omega)
  clear hT hx hx' hy hy'
  go_enter Tryz.func3, Tryz.ntmps3
  obtain ⟨B_c0, B_c1, B_c2, -, -, -, -⟩ := id B_0.out
  obtain ⟨C_c0, C_c1, C_c2, -, -, -, -⟩ := id C_0.out
  go_wp2_with fail
  refine Calls.mono (AW.out _ T_0.out) ?_
  rintro e w1 ⟨rfl, k1⟩
  clear B_c0 B_c1 B_c2 C_c0 C_c1 C_c2
  have T_1 := Lib.hid (T_0.out.keep k1)
  have B_1 := Lib.hid (B_0.out.keep k1)
  have C_1 := Lib.hid (C_0.out.keep k1)
  have KW_1 := Lib.hid (KW_0.out.trans k1)
  clear k1 T_0 B_0 C_0 KW_0
  obtain ⟨B_c0, B_c1, B_c2, -, -, -, -⟩ := id B_1.out
  obtain ⟨C_c0, C_c1, C_c2, -, -, -, -⟩ := id C_1.out
  go_wp2_with fail
  go_ret
  exact ⟨rfl, KW_1.out⟩
set_option maxHeartbeats 4000000 in
theorem smp_law_s0 {w : World} {s : Bool} {a a' : Option Addr} {n c n' c' : Nat} {lx lx' : List Nat} {t : Bool} {b b' : Option Addr} {m g m' g' : Nat} {ly ly' : List Nat} (hx : Rd w a n c lx) (hx' : Rd w a' n' c' lx') (hy : Rd w b m g ly) (hy' : Rd w b' m' g' ly') (hT : Tab w) (f0 : n ≤ 2) (f1 : n' ≤ 2) (f2 : m ≤ 2) (f3 : m' ≤ 2) (h1 : rv t (nv ly) (nv ly') < rv s (nv lx) (nv lx')) : Calls Tryz.prog 3 #[.agg #[.bool s, .slice a n c, .slice a' n' c'], .agg #[.bool t, .slice b m g, .slice b' m' g']] w (BPost true w) := by
  obtain ⟨B_0, C_0, KW_0⟩ := ops2 w s a n c a' n' c' t b m g b' m' g'
  have T_0 := Lib.hid (hT.keep KW_0.out)
  have AW := Lib.hid (fun w1 (hT1 : Tab w1) => awake_c w1 hT1)
  have q00 := hx.le_cap
  have q01 := hx.cap_le
  have q02 := hx'.le_cap
  have q03 := hx'.cap_le
  have q10 := hy.le_cap
  have q11 := hy.cap_le
  have q12 := hy'.le_cap
  have q13 := hy'.cap_le
  have d0 : decide ((2 : Int) < (n : Int)) = false := decide_eq_false (by omega)
  have d1 : decide ((2 : Int) < (n' : Int)) = false := decide_eq_false (by omega)
  have d2 : decide ((2 : Int) < (m : Int)) = false := decide_eq_false (by omega)
  have d3 : decide ((2 : Int) < (m' : Int)) = false := decide_eq_false (by omega)
  have lX : lx.length ≤ 3 := by rw [hx.len_eq]; omega
  have lX' : lx'.length ≤ 3 := by rw [hx'.len_eq]; omega
  have nX : Ra w (.agg #[.bool s, .slice a n c, .slice a' n' c']) (rv s (nv lx) (nv lx')) 3 := ⟨_, _, _, _, _, rfl, hx.toNm rfl lX, hx'.toNm rfl lX', rfl⟩
  obtain ⟨p, hXq⟩ : ∃ q, rv s (nv lx) (nv lx') = q := ⟨_, rfl⟩
  rw [hXq] at nX h1
  have NX_0 := Lib.hid (nX.keep KW_0.out)
  have rbp := nX.rb (by omega)
  have lY : ly.length ≤ 3 := by rw [hy.len_eq]; omega
  have lY' : ly'.length ≤ 3 := by rw [hy'.len_eq]; omega
  have nY : Ra w (.agg #[.bool t, .slice b m g, .slice b' m' g']) (rv t (nv ly) (nv ly')) 3 := ⟨_, _, _, _, _, rfl, hy.toNm rfl lY, hy'.toNm rfl lY', rfl⟩
  obtain ⟨q, hYq⟩ : ∃ q, rv t (nv ly) (nv ly') = q := ⟨_, rfl⟩
  rw [hYq] at nY h1
  have NY_0 := Lib.hid (nY.keep KW_0.out)
  have rbq := nY.rb (by omega)
  have S1 := Lib.hid (fun w1 (h : Ra w1 (.agg #[.bool s, .slice a n c, .slice a' n' c']) p 3) (h' : Ra w1 (.agg #[.bool t, .slice b m g, .slice b' m' g']) q 3) (hT1 : Tab w1) => qsimplest_z h h' h1 (by omega) (by omega) hT1)
  have S2 := Lib.hid (fun w1 (h : Ra w1 (.agg #[.bool s, .slice a n c, .slice a' n' c']) p 3) (h' : Ra w1 (.agg #[.bool t, .slice b m g, .slice b' m' g']) q 3) => rsimplest_z h h' h1 (by omega) (by omega))
  clear hT hx hx' hy hy' lX lX' lY lY' nX nY hXq hYq rbp rbq h1 f0 f1 f2 f3
  go_enter Tryz.func3, Tryz.ntmps3
  obtain ⟨B_c0, B_c1, B_c2, -, -, -, -⟩ := id B_0.out
  obtain ⟨C_c0, C_c1, C_c2, -, -, -, -⟩ := id C_0.out
  go_wp2_with fail
  refine Calls.mono (AW.out _ T_0.out) ?_
  rintro e w1 ⟨rfl, k1⟩
  clear B_c0 B_c1 B_c2 C_c0 C_c1 C_c2
  have T_1 := Lib.hid (T_0.out.keep k1)
  have NX_1 := Lib.hid (NX_0.out.keep k1)
  have NY_1 := Lib.hid (NY_0.out.keep k1)
  have B_1 := Lib.hid (B_0.out.keep k1)
  have C_1 := Lib.hid (C_0.out.keep k1)
  have KW_1 := Lib.hid (KW_0.out.trans k1)
  clear k1 T_0 NX_0 NY_0 B_0 C_0 KW_0
  obtain ⟨B_c0, B_c1, B_c2, -, -, -, -⟩ := id B_1.out
  obtain ⟨C_c0, C_c1, C_c2, -, -, -, -⟩ := id C_1.out
  go_wp2_with fail
  refine Calls.mono (S1.out _ NX_1.out NY_1.out T_1.out) ?_
  rintro e w2 ⟨vS, rfl, hS, k2⟩
  clear B_c0 B_c1 B_c2 C_c0 C_c1 C_c2
  have T_2 := Lib.hid (T_1.out.keep k2)
  have NX_2 := Lib.hid (NX_1.out.keep k2)
  have NY_2 := Lib.hid (NY_1.out.keep k2)
  have B_2 := Lib.hid (B_1.out.keep k2)
  have C_2 := Lib.hid (C_1.out.keep k2)
  have CS_2 := Lib.hid hS
  have KW_2 := Lib.hid (KW_1.out.trans k2)
  clear k2 T_1 NX_1 NY_1 B_1 C_1 hS KW_1
  obtain ⟨aS, nS, cS, a'S, n'S, c'S, rfl, -⟩ := Cr.form CS_2.out
  have CS_2_x := CS_2.out
  obtain ⟨bS, hbS⟩ : ∃ b, decide (((0 : Rat)).num < 0) = b := ⟨_, rfl⟩
  rw [hbS] at CS_2_x ⊢
  have CS_2_y := Lib.hid CS_2_x
  clear CS_2_x hbS CS_2
  have T_3 := Lib.hid (T_2.out.keep ((Keep.refl _).alloc (.cells #[.bool bS, .slice aS nS cS, .slice a'S n'S c'S] 25)))
  have NX_3 := Lib.hid (NX_2.out.keep ((Keep.refl _).alloc (.cells #[.bool bS, .slice aS nS cS, .slice a'S n'S c'S] 25)))
  have NY_3 := Lib.hid (NY_2.out.keep ((Keep.refl _).alloc (.cells #[.bool bS, .slice aS nS cS, .slice a'S n'S c'S] 25)))
  have B_3 := Lib.hid (B_2.out.keep ((Keep.refl _).alloc (.cells #[.bool bS, .slice aS nS cS, .slice a'S n'S c'S] 25)))
  have C_3 := Lib.hid (C_2.out.keep ((Keep.refl _).alloc (.cells #[.bool bS, .slice aS nS cS, .slice a'S n'S c'S] 25)))
  have CS_3 := Lib.hid (CS_2_y.out.keep ((Keep.refl _).alloc (.cells #[.bool bS, .slice aS nS cS, .slice a'S n'S c'S] 25)))
  have KW_3 := Lib.hid (KW_2.out.trans ((Keep.refl _).alloc (.cells #[.bool bS, .slice aS nS cS, .slice a'S n'S c'S] 25)))
  clear T_2 NX_2 NY_2 B_2 C_2 CS_2_y KW_2
  have S_3 := Lib.hid (QBox.new w2 bS aS nS cS a'S n'S c'S)
  obtain ⟨B_c0, B_c1, B_c2, -, -, -, -⟩ := id B_3.out
  obtain ⟨C_c0, C_c1, C_c2, -, -, -, -⟩ := id C_3.out
  obtain ⟨S_c0, S_c1, S_c2, -, -, -, -⟩ := id S_3.out
  go_wp2_with fail
  refine Calls.mono (S2.out _ NX_3.out NY_3.out) ?_
  rintro e w4 ⟨vU, rfl, hS, k4⟩
  clear B_c0 B_c1 B_c2 C_c0 C_c1 C_c2 S_c0 S_c1 S_c2
  have T_4 := Lib.hid (T_3.out.keep k4)
  have NX_4 := Lib.hid (NX_3.out.keep k4)
  have NY_4 := Lib.hid (NY_3.out.keep k4)
  have B_4 := Lib.hid (B_3.out.keep k4)
  have C_4 := Lib.hid (C_3.out.keep k4)
  have CS_4 := Lib.hid (CS_3.out.keep k4)
  have S_4 := Lib.hid (S_3.out.keep k4)
  have CU_4 := Lib.hid hS
  have KW_4 := Lib.hid (KW_3.out.trans k4)
  clear k4 T_3 NX_3 NY_3 B_3 C_3 CS_3 S_3 hS KW_3
  obtain ⟨aU, nU, cU, a'U, n'U, c'U, rfl, -⟩ := Cr.form CU_4.out
  have CU_4_x := CU_4.out
  obtain ⟨bU, hbU⟩ : ∃ b, decide (((0 : Rat)).num < 0) = b := ⟨_, rfl⟩
  rw [hbU] at CU_4_x ⊢
  have CU_4_y := Lib.hid CU_4_x
  clear CU_4_x hbU CU_4
  have T_5 := Lib.hid (T_4.out.keep ((Keep.refl _).alloc (.cells #[.bool bU, .slice aU nU cU, .slice a'U n'U c'U] 25)))
  have NX_5 := Lib.hid (NX_4.out.keep ((Keep.refl _).alloc (.cells #[.bool bU, .slice aU nU cU, .slice a'U n'U c'U] 25)))
  have NY_5 := Lib.hid (NY_4.out.keep ((Keep.refl _).alloc (.cells #[.bool bU, .slice aU nU cU, .slice a'U n'U c'U] 25)))
  have B_5 := Lib.hid (B_4.out.keep ((Keep.refl _).alloc (.cells #[.bool bU, .slice aU nU cU, .slice a'U n'U c'U] 25)))
  have C_5 := Lib.hid (C_4.out.keep ((Keep.refl _).alloc (.cells #[.bool bU, .slice aU nU cU, .slice a'U n'U c'U] 25)))
  have CS_5 := Lib.hid (CS_4.out.keep ((Keep.refl _).alloc (.cells #[.bool bU, .slice aU nU cU, .slice a'U n'U c'U] 25)))
  have S_5 := Lib.hid (S_4.out.keep ((Keep.refl _).alloc (.cells #[.bool bU, .slice aU nU cU, .slice a'U n'U c'U] 25)))
  have CU_5 := Lib.hid (CU_4_y.out.keep ((Keep.refl _).alloc (.cells #[.bool bU, .slice aU nU cU, .slice a'U n'U c'U] 25)))
  have KW_5 := Lib.hid (KW_4.out.trans ((Keep.refl _).alloc (.cells #[.bool bU, .slice aU nU cU, .slice a'U n'U c'U] 25)))
  clear T_4 NX_4 NY_4 B_4 C_4 CS_4 S_4 CU_4_y KW_4
  have U_5 := Lib.hid (QBox.new w4 bU aU nU cU a'U n'U c'U)
  obtain ⟨B_c0, B_c1, B_c2, -, -, -, -⟩ := id B_5.out
  obtain ⟨C_c0, C_c1, C_c2, -, -, -, -⟩ := id C_5.out
  obtain ⟨S_c0, S_c1, S_c2, -, -, -, -⟩ := id S_5.out
  obtain ⟨U_c0, U_c1, U_c2, -, -, -, -⟩ := id U_5.out
  go_wp2_with fail
  refine Calls.mono (qsame_t CS_5.out CU_5.out) ?_
  rintro e w6 ⟨rfl, k6⟩
  clear B_c0 B_c1 B_c2 C_c0 C_c1 C_c2 S_c0 S_c1 S_c2 U_c0 U_c1 U_c2
  have T_6 := Lib.hid (T_5.out.keep k6)
  have NX_6 := Lib.hid (NX_5.out.keep k6)
  have NY_6 := Lib.hid (NY_5.out.keep k6)
  have B_6 := Lib.hid (B_5.out.keep k6)
  have C_6 := Lib.hid (C_5.out.keep k6)
  have CS_6 := Lib.hid (CS_5.out.keep k6)
  have S_6 := Lib.hid (S_5.out.keep k6)
  have CU_6 := Lib.hid (CU_5.out.keep k6)
  have U_6 := Lib.hid (U_5.out.keep k6)
  have KW_6 := Lib.hid (KW_5.out.trans k6)
  clear k6 T_5 NX_5 NY_5 B_5 C_5 CS_5 S_5 CU_5 U_5 KW_5
  obtain ⟨B_c0, B_c1, B_c2, -, -, -, -⟩ := id B_6.out
  obtain ⟨C_c0, C_c1, C_c2, -, -, -, -⟩ := id C_6.out
  obtain ⟨S_c0, S_c1, S_c2, -, -, -, -⟩ := id S_6.out
  obtain ⟨U_c0, U_c1, U_c2, -, -, -, -⟩ := id U_6.out
  go_wp2_with fail
  go_ret
  exact ⟨rfl, KW_6.out⟩
set_option maxHeartbeats 4000000 in
theorem smp_law_s1 {w : World} {s : Bool} {a a' : Option Addr} {n c n' c' : Nat} {lx lx' : List Nat} {t : Bool} {b b' : Option Addr} {m g m' g' : Nat} {ly ly' : List Nat} (hx : Rd w a n c lx) (hx' : Rd w a' n' c' lx') (hy : Rd w b m g ly) (hy' : Rd w b' m' g' ly') (hT : Tab w) (f0 : n ≤ 2) (f1 : n' ≤ 2) (f2 : m ≤ 2) (f3 : m' ≤ 2) (h1 : rv s (nv lx) (nv lx') ≤ rv t (nv ly) (nv ly')) : Calls Tryz.prog 3 #[.agg #[.bool s, .slice a n c, .slice a' n' c'], .agg #[.bool t, .slice b m g, .slice b' m' g']] w (BPost true w) := by
  obtain ⟨B_0, C_0, KW_0⟩ := ops2 w s a n c a' n' c' t b m g b' m' g'
  have T_0 := Lib.hid (hT.keep KW_0.out)
  have AW := Lib.hid (fun w1 (hT1 : Tab w1) => awake_c w1 hT1)
  have q00 := hx.le_cap
  have q01 := hx.cap_le
  have q02 := hx'.le_cap
  have q03 := hx'.cap_le
  have q10 := hy.le_cap
  have q11 := hy.cap_le
  have q12 := hy'.le_cap
  have q13 := hy'.cap_le
  have d0 : decide ((2 : Int) < (n : Int)) = false := decide_eq_false (by omega)
  have d1 : decide ((2 : Int) < (n' : Int)) = false := decide_eq_false (by omega)
  have d2 : decide ((2 : Int) < (m : Int)) = false := decide_eq_false (by omega)
  have d3 : decide ((2 : Int) < (m' : Int)) = false := decide_eq_false (by omega)
  have lX : lx.length ≤ 3 := by rw [hx.len_eq]; omega
  have lX' : lx'.length ≤ 3 := by rw [hx'.len_eq]; omega
  have nX : Ra w (.agg #[.bool s, .slice a n c, .slice a' n' c']) (rv s (nv lx) (nv lx')) 3 := ⟨_, _, _, _, _, rfl, hx.toNm rfl lX, hx'.toNm rfl lX', rfl⟩
  obtain ⟨p, hXq⟩ : ∃ q, rv s (nv lx) (nv lx') = q := ⟨_, rfl⟩
  rw [hXq] at nX h1
  have NX_0 := Lib.hid (nX.keep KW_0.out)
  have rbp := nX.rb (by omega)
  have lY : ly.length ≤ 3 := by rw [hy.len_eq]; omega
  have lY' : ly'.length ≤ 3 := by rw [hy'.len_eq]; omega
  have nY : Ra w (.agg #[.bool t, .slice b m g, .slice b' m' g']) (rv t (nv ly) (nv ly')) 3 := ⟨_, _, _, _, _, rfl, hy.toNm rfl lY, hy'.toNm rfl lY', rfl⟩
  obtain ⟨q, hYq⟩ : ∃ q, rv t (nv ly) (nv ly') = q := ⟨_, rfl⟩
  rw [hYq] at nY h1
  have NY_0 := Lib.hid (nY.keep KW_0.out)
  have rbq := nY.rb (by omega)
  have S1 := Lib.hid (fun w1 (h : Ra w1 (.agg #[.bool s, .slice a n c, .slice a' n' c']) p 3) (h' : Ra w1 (.agg #[.bool t, .slice b m g, .slice b' m' g']) q 3) (hT1 : Tab w1) => qsimplest_c h h' h1 (by omega) (by omega) hT1)
  have S2 := Lib.hid (fun w1 (h : Ra w1 (.agg #[.bool s, .slice a n c, .slice a' n' c']) p 3) (h' : Ra w1 (.agg #[.bool t, .slice b m g, .slice b' m' g']) q 3) => rsimplest_c h h' h1 (by omega) (by omega))
  obtain ⟨sp, hsp⟩ : ∃ x, smpR p q = x := ⟨_, rfl⟩
  rw [hsp] at S1 S2
  clear hsp
  clear hT hx hx' hy hy' lX lX' lY lY' nX nY hXq hYq rbp rbq h1 f0 f1 f2 f3
  go_enter Tryz.func3, Tryz.ntmps3
  obtain ⟨B_c0, B_c1, B_c2, -, -, -, -⟩ := id B_0.out
  obtain ⟨C_c0, C_c1, C_c2, -, -, -, -⟩ := id C_0.out
  go_wp2_with fail
  refine Calls.mono (AW.out _ T_0.out) ?_
  rintro e w1 ⟨rfl, k1⟩
  clear B_c0 B_c1 B_c2 C_c0 C_c1 C_c2
  have T_1 := Lib.hid (T_0.out.keep k1)
  have NX_1 := Lib.hid (NX_0.out.keep k1)
  have NY_1 := Lib.hid (NY_0.out.keep k1)
  have B_1 := Lib.hid (B_0.out.keep k1)
  have C_1 := Lib.hid (C_0.out.keep k1)
  have KW_1 := Lib.hid (KW_0.out.trans k1)
  clear k1 T_0 NX_0 NY_0 B_0 C_0 KW_0
  obtain ⟨B_c0, B_c1, B_c2, -, -, -, -⟩ := id B_1.out
  obtain ⟨C_c0, C_c1, C_c2, -, -, -, -⟩ := id C_1.out
  go_wp2_with fail
  refine Calls.mono (S1.out _ NX_1.out NY_1.out T_1.out) ?_
  rintro e w2 ⟨vS, rfl, hS, k2⟩
  clear B_c0 B_c1 B_c2 C_c0 C_c1 C_c2
  have T_2 := Lib.hid (T_1.out.keep k2)
  have NX_2 := Lib.hid (NX_1.out.keep k2)
  have NY_2 := Lib.hid (NY_1.out.keep k2)
  have B_2 := Lib.hid (B_1.out.keep k2)
  have C_2 := Lib.hid (C_1.out.keep k2)
  have CS_2 := Lib.hid hS
  have KW_2 := Lib.hid (KW_1.out.trans k2)
  clear k2 T_1 NX_1 NY_1 B_1 C_1 hS KW_1
  obtain ⟨aS, nS, cS, a'S, n'S, c'S, rfl, -⟩ := Cr.form CS_2.out
  have CS_2_x := CS_2.out
  obtain ⟨bS, hbS⟩ : ∃ b, decide ((sp).num < 0) = b := ⟨_, rfl⟩
  rw [hbS] at CS_2_x ⊢
  have CS_2_y := Lib.hid CS_2_x
  clear CS_2_x hbS CS_2
  have T_3 := Lib.hid (T_2.out.keep ((Keep.refl _).alloc (.cells #[.bool bS, .slice aS nS cS, .slice a'S n'S c'S] 25)))
  have NX_3 := Lib.hid (NX_2.out.keep ((Keep.refl _).alloc (.cells #[.bool bS, .slice aS nS cS, .slice a'S n'S c'S] 25)))
  have NY_3 := Lib.hid (NY_2.out.keep ((Keep.refl _).alloc (.cells #[.bool bS, .slice aS nS cS, .slice a'S n'S c'S] 25)))
  have B_3 := Lib.hid (B_2.out.keep ((Keep.refl _).alloc (.cells #[.bool bS, .slice aS nS cS, .slice a'S n'S c'S] 25)))
  have C_3 := Lib.hid (C_2.out.keep ((Keep.refl _).alloc (.cells #[.bool bS, .slice aS nS cS, .slice a'S n'S c'S] 25)))
  have CS_3 := Lib.hid (CS_2_y.out.keep ((Keep.refl _).alloc (.cells #[.bool bS, .slice aS nS cS, .slice a'S n'S c'S] 25)))
  have KW_3 := Lib.hid (KW_2.out.trans ((Keep.refl _).alloc (.cells #[.bool bS, .slice aS nS cS, .slice a'S n'S c'S] 25)))
  clear T_2 NX_2 NY_2 B_2 C_2 CS_2_y KW_2
  have S_3 := Lib.hid (QBox.new w2 bS aS nS cS a'S n'S c'S)
  obtain ⟨B_c0, B_c1, B_c2, -, -, -, -⟩ := id B_3.out
  obtain ⟨C_c0, C_c1, C_c2, -, -, -, -⟩ := id C_3.out
  obtain ⟨S_c0, S_c1, S_c2, -, -, -, -⟩ := id S_3.out
  go_wp2_with fail
  refine Calls.mono (S2.out _ NX_3.out NY_3.out) ?_
  rintro e w4 ⟨vU, rfl, hS, k4⟩
  clear B_c0 B_c1 B_c2 C_c0 C_c1 C_c2 S_c0 S_c1 S_c2
  have T_4 := Lib.hid (T_3.out.keep k4)
  have NX_4 := Lib.hid (NX_3.out.keep k4)
  have NY_4 := Lib.hid (NY_3.out.keep k4)
  have B_4 := Lib.hid (B_3.out.keep k4)
  have C_4 := Lib.hid (C_3.out.keep k4)
  have CS_4 := Lib.hid (CS_3.out.keep k4)
  have S_4 := Lib.hid (S_3.out.keep k4)
  have CU_4 := Lib.hid hS
  have KW_4 := Lib.hid (KW_3.out.trans k4)
  clear k4 T_3 NX_3 NY_3 B_3 C_3 CS_3 S_3 hS KW_3
  obtain ⟨aU, nU, cU, a'U, n'U, c'U, rfl, -⟩ := Cr.form CU_4.out
  have CU_4_x := CU_4.out
  obtain ⟨bU, hbU⟩ : ∃ b, decide ((sp).num < 0) = b := ⟨_, rfl⟩
  rw [hbU] at CU_4_x ⊢
  have CU_4_y := Lib.hid CU_4_x
  clear CU_4_x hbU CU_4
  have T_5 := Lib.hid (T_4.out.keep ((Keep.refl _).alloc (.cells #[.bool bU, .slice aU nU cU, .slice a'U n'U c'U] 25)))
  have NX_5 := Lib.hid (NX_4.out.keep ((Keep.refl _).alloc (.cells #[.bool bU, .slice aU nU cU, .slice a'U n'U c'U] 25)))
  have NY_5 := Lib.hid (NY_4.out.keep ((Keep.refl _).alloc (.cells #[.bool bU, .slice aU nU cU, .slice a'U n'U c'U] 25)))
  have B_5 := Lib.hid (B_4.out.keep ((Keep.refl _).alloc (.cells #[.bool bU, .slice aU nU cU, .slice a'U n'U c'U] 25)))
  have C_5 := Lib.hid (C_4.out.keep ((Keep.refl _).alloc (.cells #[.bool bU, .slice aU nU cU, .slice a'U n'U c'U] 25)))
  have CS_5 := Lib.hid (CS_4.out.keep ((Keep.refl _).alloc (.cells #[.bool bU, .slice aU nU cU, .slice a'U n'U c'U] 25)))
  have S_5 := Lib.hid (S_4.out.keep ((Keep.refl _).alloc (.cells #[.bool bU, .slice aU nU cU, .slice a'U n'U c'U] 25)))
  have CU_5 := Lib.hid (CU_4_y.out.keep ((Keep.refl _).alloc (.cells #[.bool bU, .slice aU nU cU, .slice a'U n'U c'U] 25)))
  have KW_5 := Lib.hid (KW_4.out.trans ((Keep.refl _).alloc (.cells #[.bool bU, .slice aU nU cU, .slice a'U n'U c'U] 25)))
  clear T_4 NX_4 NY_4 B_4 C_4 CS_4 S_4 CU_4_y KW_4
  have U_5 := Lib.hid (QBox.new w4 bU aU nU cU a'U n'U c'U)
  obtain ⟨B_c0, B_c1, B_c2, -, -, -, -⟩ := id B_5.out
  obtain ⟨C_c0, C_c1, C_c2, -, -, -, -⟩ := id C_5.out
  obtain ⟨S_c0, S_c1, S_c2, -, -, -, -⟩ := id S_5.out
  obtain ⟨U_c0, U_c1, U_c2, -, -, -, -⟩ := id U_5.out
  go_wp2_with fail
  refine Calls.mono (qsame_t CS_5.out CU_5.out) ?_
  rintro e w6 ⟨rfl, k6⟩
  clear B_c0 B_c1 B_c2 C_c0 C_c1 C_c2 S_c0 S_c1 S_c2 U_c0 U_c1 U_c2
  have T_6 := Lib.hid (T_5.out.keep k6)
  have NX_6 := Lib.hid (NX_5.out.keep k6)
  have NY_6 := Lib.hid (NY_5.out.keep k6)
  have B_6 := Lib.hid (B_5.out.keep k6)
  have C_6 := Lib.hid (C_5.out.keep k6)
  have CS_6 := Lib.hid (CS_5.out.keep k6)
  have S_6 := Lib.hid (S_5.out.keep k6)
  have CU_6 := Lib.hid (CU_5.out.keep k6)
  have U_6 := Lib.hid (U_5.out.keep k6)
  have KW_6 := Lib.hid (KW_5.out.trans k6)
  clear k6 T_5 NX_5 NY_5 B_5 C_5 CS_5 S_5 CU_5 U_5 KW_5
  obtain ⟨B_c0, B_c1, B_c2, -, -, -, -⟩ := id B_6.out
  obtain ⟨C_c0, C_c1, C_c2, -, -, -, -⟩ := id C_6.out
  obtain ⟨S_c0, S_c1, S_c2, -, -, -, -⟩ := id S_6.out
  obtain ⟨U_c0, U_c1, U_c2, -, -, -, -⟩ := id U_6.out
  go_wp2_with fail
  go_ret
  exact ⟨rfl, KW_6.out⟩
theorem smp_law_c {w : World} {s : Bool} {a a' : Option Addr} {n c n' c' : Nat} {lx lx' : List Nat} {t : Bool} {b b' : Option Addr} {m g m' g' : Nat} {ly ly' : List Nat} (hx : Rd w a n c lx) (hx' : Rd w a' n' c' lx') (hy : Rd w b m g ly) (hy' : Rd w b' m' g' ly') (hT : Tab w) : Calls Tryz.prog 3 #[.agg #[.bool s, .slice a n c, .slice a' n' c'], .agg #[.bool t, .slice b m g, .slice b' m' g']] w (BPost true w) := by
  rcases Nat.lt_or_ge 2 n with f0 | f0
  · exact smp_law_b0 hx hx' hy hy' hT f0
  · skip
    rcases Nat.lt_or_ge 2 n' with f1 | f1
    · exact smp_law_b1 hx hx' hy hy' hT f0 f1
    · skip
      rcases Nat.lt_or_ge 2 m with f2 | f2
      · exact smp_law_b2 hx hx' hy hy' hT f0 f1 f2
      · skip
        rcases Nat.lt_or_ge 2 m' with f3 | f3
        · exact smp_law_b3 hx hx' hy hy' hT f0 f1 f2 f3
        · skip
          by_cases h1 : rv s (nv lx) (nv lx') ≤ rv t (nv ly) (nv ly')
          · exact smp_law_s1 hx hx' hy hy' hT f0 f1 f2 f3 h1
          · exact smp_law_s0 hx hx' hy hy' hT f0 f1 f2 f3 (Rat.not_le.1 h1)
end Go.Proofs.YtjkfnnoakjdgmaaGreatDoor
