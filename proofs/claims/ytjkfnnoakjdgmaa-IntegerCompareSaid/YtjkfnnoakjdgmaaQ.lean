/- Walks of layer 2: the law of Compare. -/
import Derived.Test.YtjkfnnoakjdgmaaM
namespace Go.Proofs.Ytjkfnnoakjdgmaa
open Go.RowKit
set_option linter.unusedVariables false
theorem zC_facts (x y : Int) : (zC x y = -1 ∧ x < y) ∨ (zC x y = 0 ∧ x = y) ∨ (zC x y = 1 ∧ y < x) := by
  unfold zC; split
  · exact .inl ⟨rfl, by omega⟩
  · split
    · exact .inr (.inl ⟨rfl, by omega⟩)
    · exact .inr (.inr ⟨rfl, by omega⟩)
theorem zC_neg (x y : Int) : zC y x = -(zC x y) := by
  rcases zC_facts x y with h | h | h <;> rcases zC_facts y x with g | g | g <;> omega
theorem zC_add (x y z : Int) : zC (x + z) (y + z) = zC x y := by
  rcases zC_facts x y with h | h | h <;> rcases zC_facts (x + z) (y + z) with g | g | g <;> omega
theorem zC_mul (x y z : Int) : zC (x * z) (y * z) = zC x y * sgn z := by
  rcases sgn_facts z with k | k | k
  · rcases zC_facts x y with h | h | h
    · have := Int.mul_lt_mul_of_neg_right h.2 k.2
      rcases zC_facts (x * z) (y * z) with g | g | g <;> rw [h.1, k.1] <;> omega
    · rw [h.1, h.2, Int.zero_mul]; rcases zC_facts (y * z) (y * z) with g | g | g <;> omega
    · have := Int.mul_lt_mul_of_neg_right h.2 k.2
      rcases zC_facts (x * z) (y * z) with g | g | g <;> rw [h.1, k.1] <;> omega
  · rw [k.1, k.2, Int.mul_zero, Int.mul_zero, Int.mul_zero]; rfl
  · rcases zC_facts x y with h | h | h
    · have := Int.mul_lt_mul_of_pos_right h.2 k.2
      rcases zC_facts (x * z) (y * z) with g | g | g <;> rw [h.1, k.1] <;> omega
    · rw [h.1, h.2, Int.zero_mul]; rcases zC_facts (y * z) (y * z) with g | g | g <;> omega
    · have := Int.mul_lt_mul_of_pos_right h.2 k.2
      rcases zC_facts (x * z) (y * z) with g | g | g <;> rw [h.1, k.1] <;> omega
theorem one_mul_sgn (x y z : Int) : -1 ≤ zC x y * sgn z ∧ zC x y * sgn z ≤ 1 := by
  rcases zC_facts x y with h | h | h <;> rcases sgn_facts z with k | k | k <;> rw [h.1, k.1] <;> omega
theorem wrap_small {c : Int} (h : -1 ≤ c ∧ c ≤ 1) : IntKind.i64.wrap c = c := by
  simp [IntKind.wrap, IntKind.bits, IntKind.signed]; omega
set_option maxHeartbeats 4000000 in
theorem law7_many {w : World} {s s2 s3 : Bool} {a a2 a3 : Option Addr} {len cap len2 cap2 len3 cap3 : Nat} {l l2 l3 : List Nat} (hr : Rd w a len cap l) (hr2 : Rd w a2 len2 cap2 l2) (hr3 : Rd w a3 len3 cap3 l3) (hn : ¬ (len ≤ 8 ∧ len2 ≤ 8 ∧ len3 ≤ 8)) : Calls Try.prog 7 #[.agg #[.bool s, .slice a len cap], .agg #[.bool s2, .slice a2 len2 cap2], .agg #[.bool s3, .slice a3 len3 cap3]] w (BPost true w) := by
  obtain ⟨X0, Y0, Z0, K0⟩ := three_boxes w s a len cap l s2 a2 len2 cap2 l2 s3 a3 len3 cap3 l3 hr hr2 hr3
  have AW := Lib.hid (fun w1 => awake_c w1)
  unfold bxW at *
  have FW : Hid (∀ w1, Calls Try.prog 22 #[.agg #[.bool s, .slice a len cap], .agg #[.bool s2, .slice a2 len2 cap2], .agg #[.bool s3, .slice a3 len3 cap3]] w1 (BPost false w1)) := Lib.hid (by
    intro w1
    by_cases h1 : len ≤ 8
    · by_cases h2 : len2 ≤ 8
      · exact few_3 hr.le_cap hr.cap_le hr2.le_cap hr2.cap_le hr3.le_cap hr3.cap_le h1 h2 (by omega)
      · exact few_2 hr.le_cap hr.cap_le hr2.le_cap hr2.cap_le hr3.le_cap hr3.cap_le h1 h2
    · exact few_1 hr.le_cap hr.cap_le hr2.le_cap hr2.cap_le hr3.le_cap hr3.cap_le h1)
  clear hr hr2 hr3
  go_enter Try.func7, Try.ntmps7
  go_wp2_with fail
  refine Calls.mono (AW.out _) ?_
  rintro e w1 ⟨rfl, k1⟩
  have X1 := X0.keep k1
  have Y1 := Y0.keep k1
  have Z1 := Z0.keep k1
  have K1 := K0.trans k1
  obtain ⟨⟨q0, q1, _, _, _⟩, _⟩ := id X1
  obtain ⟨⟨q2, q3, _, _, _⟩, _⟩ := id Y1
  obtain ⟨⟨q4, q5, _, _, _⟩, _⟩ := id Z1
  clear X0 Y0 Z0 K0 k1
  go_wp2_with fail
  refine Calls.mono (FW.out _) ?_
  rintro e w2 ⟨rfl, k2⟩
  have X2 := X1.keep k2
  have Y2 := Y1.keep k2
  have Z2 := Z1.keep k2
  have K2 := K1.trans k2
  clear X1 Y1 Z1 K1 k2
  have HK := Lib.hid K2
  clear X2 Y2 Z2 K2
  go_wp2
  go_ret
  exact ⟨rfl, HK.out⟩
set_option maxHeartbeats 4000000 in
theorem law7_up {w : World} {s s2 s3 : Bool} {a a2 a3 : Option Addr} {len cap len2 cap2 len3 cap3 : Nat} {l l2 l3 : List Nat} (hr : Rd w a len cap l) (hr2 : Rd w a2 len2 cap2 l2) (hr3 : Rd w a3 len3 cap3 l3) (h1 : len ≤ 8) (h2 : len2 ≤ 8) (h3 : len3 ≤ 8) (hq : 0 < zC (iv s (nv l)) (iv s2 (nv l2)) ∧ zC (iv s2 (nv l2)) (iv s3 (nv l3)) = zC (iv s2 (nv l2)) (iv s3 (nv l3))) : Calls Try.prog 7 #[.agg #[.bool s, .slice a len cap], .agg #[.bool s2, .slice a2 len2 cap2], .agg #[.bool s3, .slice a3 len3 cap3]] w (BPost true w) := by
  obtain ⟨X0, Y0, Z0, K0⟩ := three_boxes w s a len cap l s2 a2 len2 cap2 l2 s3 a3 len3 cap3 l3 hr hr2 hr3
  have AW := Lib.hid (fun w1 => awake_c w1)
  unfold bxW at *
  have FW : Hid (∀ w1, Calls Try.prog 22 #[.agg #[.bool s, .slice a len cap], .agg #[.bool s2, .slice a2 len2 cap2], .agg #[.bool s3, .slice a3 len3 cap3]] w1 (BPost true w1)) := Lib.hid (fun w1 => few_0 hr.le_cap hr.cap_le hr2.le_cap hr2.cap_le hr3.le_cap hr3.cap_le h1 h2 h3)
  have hlen : l.length ≤ 8 := by rw [hr.len_eq]; omega
  obtain ⟨zx, hz⟩ : ∃ z, iv s (nv l) = z := ⟨_, rfl⟩
  have HZ := Lib.hid hz
  have HL := Lib.hid hlen
  have hb : zx.natAbs < BB ^ 8 := by rw [← hz, iv_abs']; exact Nat.lt_of_lt_of_le (nv_lt hr.lim) (Nat.pow_le_pow_right BB_pos hlen)
  have hlen2 : l2.length ≤ 8 := by rw [hr2.len_eq]; omega
  obtain ⟨zy, hz2⟩ : ∃ z, iv s2 (nv l2) = z := ⟨_, rfl⟩
  have HZ2 := Lib.hid hz2
  have HL2 := Lib.hid hlen2
  have hb2 : zy.natAbs < BB ^ 8 := by rw [← hz2, iv_abs']; exact Nat.lt_of_lt_of_le (nv_lt hr2.lim) (Nat.pow_le_pow_right BB_pos hlen2)
  have hlen3 : l3.length ≤ 8 := by rw [hr3.len_eq]; omega
  obtain ⟨zz, hz3⟩ : ∃ z, iv s3 (nv l3) = z := ⟨_, rfl⟩
  have HZ3 := Lib.hid hz3
  have HL3 := Lib.hid hlen3
  have hb3 : zz.natAbs < BB ^ 8 := by rw [← hz3, iv_abs']; exact Nat.lt_of_lt_of_le (nv_lt hr3.lim) (Nat.pow_le_pow_right BB_pos hlen3)
  have HXA : Hid ((zx + zz).natAbs < BB ^ 17) := Lib.hid (by have h := add_lt2 hb hb3; rw [show (8 + 8 + 1 : Nat) = 17 from rfl] at h; omega)
  have HYA : Hid ((zy + zz).natAbs < BB ^ 17) := Lib.hid (by have h := add_lt2 hb2 hb3; rw [show (8 + 8 + 1 : Nat) = 17 from rfl] at h; omega)
  have HYZ : Hid ((zy * zz).natAbs < BB ^ 16) := Lib.hid (by rw [Int.natAbs_mul]; exact mul_lt hb2 hb3)
  have HXZ : Hid ((zx * zz).natAbs < BB ^ 16) := Lib.hid (by rw [Int.natAbs_mul]; exact mul_lt hb hb3)
  rw [hz, hz2, hz3] at hq
  obtain ⟨c, hc⟩ : ∃ c, zC zx zy = c := ⟨_, rfl⟩
  obtain ⟨c2, hc2⟩ : ∃ c, zC zy zx = c := ⟨_, rfl⟩
  obtain ⟨d, hd⟩ : ∃ c, zC zy zz = c := ⟨_, rfl⟩
  obtain ⟨f, hf⟩ : ∃ c, zC zx zz = c := ⟨_, rfl⟩
  obtain ⟨σ, hσ⟩ : ∃ c, sgn zz = c := ⟨_, rfl⟩
  obtain ⟨m, hm⟩ : ∃ c, zC (zx * zz) (zy * zz) = c := ⟨_, rfl⟩
  have e1 := zC_facts zx zy
  have e2 := zC_facts zy zz
  have e3 := zC_facts zx zz
  rw [hc] at e1 hq
  rw [hd] at e2 hq
  rw [hf] at e3
  have hw : IntKind.i64.wrap (-c2) = c := by
    have : -c2 = c := by rw [← hc2, ← hc, zC_neg zx zy, Int.neg_neg]
    rw [this]; exact wrap_small (by omega)
  have HW2 : Hid (IntKind.i64.wrap (c * σ) = m) := Lib.hid (by
    rw [← hm, zC_mul, ← hc, ← hσ]; exact wrap_small (one_mul_sgn _ _ _))
  have hn : ¬ c ≤ 0 := by omega
  have hn1 : decide (c ≤ 0) = false := decide_eq_false hn
  have HC := Lib.hid hc
  have HC2 := Lib.hid hc2
  have HD := Lib.hid hd
  have HF := Lib.hid hf
  have HS := Lib.hid hσ
  have HM := Lib.hid hm
  clear hr hr2 hr3 hz hz2 hz3 hlen hlen2 hlen3 hb hb2 hb3 hc hc2 hd hf hσ hm e1 e2 e3 hq
  go_enter Try.func7, Try.ntmps7
  go_wp2_with fail
  refine Calls.mono (AW.out _) ?_
  rintro e w1 ⟨rfl, k1⟩
  have X1 := X0.keep k1
  have Y1 := Y0.keep k1
  have Z1 := Z0.keep k1
  have K1 := K0.trans k1
  obtain ⟨⟨q0, q1, _, _, _⟩, _⟩ := id X1
  obtain ⟨⟨q2, q3, _, _, _⟩, _⟩ := id Y1
  obtain ⟨⟨q4, q5, _, _, _⟩, _⟩ := id Z1
  clear X0 Y0 Z0 K0 k1
  go_wp2_with fail
  refine Calls.mono (FW.out _) ?_
  rintro e w2 ⟨rfl, k2⟩
  have X2 := X1.keep k2
  have Y2 := Y1.keep k2
  have Z2 := Z1.keep k2
  have K2 := K1.trans k2
  clear X1 Y1 Z1 K1 k2
  obtain ⟨⟨a2_0, a2_1, _, _, _⟩, _⟩ := id X2
  obtain ⟨⟨b2_0, b2_1, _, _, _⟩, _⟩ := id Y2
  obtain ⟨⟨c2_0, c2_1, _, _, _⟩, _⟩ := id Z2
  go_wp2_with fail
  refine Calls.mono ((by have H := cmp_z (X2.iz HL.out) (Y2.iz HL2.out) (by omega) (by omega); rw [HZ.out, HZ2.out, HC.out] at H; exact H)) ?_
  rintro e w3 ⟨rfl, k3⟩
  have X3 := X2.keep k3
  have Y3 := Y2.keep k3
  have Z3 := Z2.keep k3
  have K3 := K2.trans k3
  obtain ⟨⟨a3_0, a3_1, _, _, _⟩, _⟩ := id X3
  obtain ⟨⟨b3_0, b3_1, _, _, _⟩, _⟩ := id Y3
  obtain ⟨⟨c3_0, c3_1, _, _, _⟩, _⟩ := id Z3
  clear X2 Y2 Z2 K2 k3
  go_wp2_with fail
  refine Calls.mono ((by have H := rcmp_z (X3.iz HL.out) (Y3.iz HL2.out) (by omega) (by omega); rw [HZ.out, HZ2.out, HC.out] at H; exact H)) ?_
  rintro e w4 ⟨rfl, k4⟩
  have X4 := X3.keep k4
  have Y4 := Y3.keep k4
  have Z4 := Z3.keep k4
  have K4 := K3.trans k4
  obtain ⟨⟨a4_0, a4_1, _, _, _⟩, _⟩ := id X4
  obtain ⟨⟨b4_0, b4_1, _, _, _⟩, _⟩ := id Y4
  obtain ⟨⟨c4_0, c4_1, _, _, _⟩, _⟩ := id Z4
  clear X3 Y3 Z3 K3 k4
  go_wp2_with fail
  refine Calls.mono ((by have H := cmp_z (Y4.iz HL2.out) (X4.iz HL.out) (by omega) (by omega); rw [HZ.out, HZ2.out, HC2.out] at H; exact H)) ?_
  rintro e w5 ⟨rfl, k5⟩
  have X5 := X4.keep k5
  have Y5 := Y4.keep k5
  have Z5 := Z4.keep k5
  have K5 := K4.trans k5
  obtain ⟨⟨a5_0, a5_1, _, _, _⟩, _⟩ := id X5
  obtain ⟨⟨b5_0, b5_1, _, _, _⟩, _⟩ := id Y5
  obtain ⟨⟨c5_0, c5_1, _, _, _⟩, _⟩ := id Z5
  clear X4 Y4 Z4 K4 k5
  have x_0 := Lib.hid (X5.keep (keep_drew _))
  have y_0 := Lib.hid (Y5.keep (keep_drew _))
  have z_0 := Lib.hid (Z5.keep (keep_drew _))
  have bw_0 := Lib.hid (K5.trans (keep_drew _))
  obtain ⟨p0, p1, _, _, _⟩ := x_0.out.box
  obtain ⟨p2, p3, _, _, _⟩ := y_0.out.box
  obtain ⟨p4, p5, _, _, _⟩ := z_0.out.box
  clear X5 Y5 Z5 K5
  go_wp2
  go_region_held3 (fun w' => w'.cell? ⟨w.heap.size, 0, none⟩ = some (.bool s) ∧ w'.cell? ⟨w.heap.size, 1, none⟩ = some (.slice a len cap) ∧ w'.cell? ⟨(w.heap.size + 1), 0, none⟩ = some (.bool s2) ∧ w'.cell? ⟨(w.heap.size + 1), 1, none⟩ = some (.slice a2 len2 cap2) ∧ w'.cell? ⟨(w.heap.size + 1 + 1), 0, none⟩ = some (.bool s3) ∧ w'.cell? ⟨(w.heap.size + 1 + 1), 1, none⟩ = some (.slice a3 len3 cap3)) (first | exact ⟨x_7_0, x_7_1, y_7_0, y_7_1, z_7_0, z_7_1⟩ | exact ⟨x_6_0, x_6_1, y_6_0, y_6_1, z_6_0, z_6_1⟩ | exact ⟨x_5_0, x_5_1, y_5_0, y_5_1, z_5_0, z_5_1⟩ | exact ⟨x_4_0, x_4_1, y_4_0, y_4_1, z_4_0, z_4_1⟩ | exact ⟨x_3_0, x_3_1, y_3_0, y_3_1, z_3_0, z_3_1⟩ | exact ⟨x_2_0, x_2_1, y_2_0, y_2_1, z_2_0, z_2_1⟩ | exact ⟨x_1_0, x_1_1, y_1_0, y_1_1, z_1_0, z_1_1⟩ | go_keep)
    (first
      | (go_at_call 16; ((with_reducible refine Calls.mono ((by have H := sign_z (z_6.out.iz HL3.out) (by omega); rw [HZ3.out, HS.out] at H; exact H)) ?_); rintro e w_7 ⟨rfl, k_7⟩; have x_7 := Lib.hid (x_6.out.keep k_7); obtain ⟨x_7_0, x_7_1, _, _, _⟩ := x_7.out.box; have y_7 := Lib.hid (y_6.out.keep k_7); obtain ⟨y_7_0, y_7_1, _, _, _⟩ := y_7.out.box; have z_7 := Lib.hid (z_6.out.keep k_7); obtain ⟨z_7_0, z_7_1, _, _, _⟩ := z_7.out.box; have bw_7 := Lib.hid (bw_6.out.trans k_7); clear k_7))
      | (go_at_call 30; ((with_reducible refine Calls.mono ((by have H := cmp_z (U_45.out.iz (k := 16) HXZ.out) (U_5.out.iz (k := 16) HYZ.out) (by omega) (by omega); rw [HM.out] at H; exact H)) ?_); rintro e w_6 ⟨rfl, k_6⟩; have x_6 := Lib.hid (x_5.out.keep k_6); obtain ⟨x_6_0, x_6_1, _, _, _⟩ := x_6.out.box; have y_6 := Lib.hid (y_5.out.keep k_6); obtain ⟨y_6_0, y_6_1, _, _, _⟩ := y_6.out.box; have z_6 := Lib.hid (z_5.out.keep k_6); obtain ⟨z_6_0, z_6_1, _, _, _⟩ := z_6.out.box; have bw_6 := Lib.hid (bw_5.out.trans k_6); clear k_6))
      | (go_at_call_of 28 (Value.agg #[Value.bool s2, Value.slice a2 len2 cap2]); ((with_reducible refine Calls.mono ((by have H := mul_z (y_4.out.iz HL2.out) (z_4.out.iz HL3.out) (by omega) (by omega) (.inl (by omega)); rw [HZ2.out, HZ3.out] at H; exact H)) ?_); rintro e w_5 ⟨u5, rfl, hu, k_5⟩; have x_5 := Lib.hid (x_4.out.keep k_5); obtain ⟨x_5_0, x_5_1, _, _, _⟩ := x_5.out.box; have y_5 := Lib.hid (y_4.out.keep k_5); obtain ⟨y_5_0, y_5_1, _, _, _⟩ := y_5.out.box; have z_5 := Lib.hid (z_4.out.keep k_5); obtain ⟨z_5_0, z_5_1, _, _, _⟩ := z_5.out.box; have bw_5 := Lib.hid (bw_4.out.trans k_5); have U_5 := Lib.hid hu; have U_45 := Lib.hid (U_4.out.keep k_5); clear hu; clear k_5))
      | (go_at_call_of 28 (Value.agg #[Value.bool s, Value.slice a len cap]); ((with_reducible refine Calls.mono ((by have H := mul_z (x_3.out.iz HL.out) (z_3.out.iz HL3.out) (by omega) (by omega) (.inl (by omega)); rw [HZ.out, HZ3.out] at H; exact H)) ?_); rintro e w_4 ⟨u4, rfl, hu, k_4⟩; have x_4 := Lib.hid (x_3.out.keep k_4); obtain ⟨x_4_0, x_4_1, _, _, _⟩ := x_4.out.box; have y_4 := Lib.hid (y_3.out.keep k_4); obtain ⟨y_4_0, y_4_1, _, _, _⟩ := y_4.out.box; have z_4 := Lib.hid (z_3.out.keep k_4); obtain ⟨z_4_0, z_4_1, _, _, _⟩ := z_4.out.box; have bw_4 := Lib.hid (bw_3.out.trans k_4); have U_4 := Lib.hid hu; clear hu; clear k_4))
      | (go_at_call 30; ((with_reducible refine Calls.mono ((by have H := cmp_z (U_12.out.iz (k := 17) HXA.out) (U_2.out.iz (k := 17) HYA.out) (by omega) (by omega); rw [zC_add, HC.out] at H; exact H)) ?_); rintro e w_3 ⟨rfl, k_3⟩; have x_3 := Lib.hid (x_2.out.keep k_3); obtain ⟨x_3_0, x_3_1, _, _, _⟩ := x_3.out.box; have y_3 := Lib.hid (y_2.out.keep k_3); obtain ⟨y_3_0, y_3_1, _, _, _⟩ := y_3.out.box; have z_3 := Lib.hid (z_2.out.keep k_3); obtain ⟨z_3_0, z_3_1, _, _, _⟩ := z_3.out.box; have bw_3 := Lib.hid (bw_2.out.trans k_3); clear k_3))
      | (go_at_call_of 23 (Value.agg #[Value.bool s2, Value.slice a2 len2 cap2]); ((with_reducible refine Calls.mono ((by have H := add_z (y_1.out.iz HL2.out) (z_1.out.iz HL3.out) (by omega) (by omega); rw [HZ2.out, HZ3.out] at H; exact H)) ?_); rintro e w_2 ⟨u2, rfl, hu, k_2⟩; have x_2 := Lib.hid (x_1.out.keep k_2); obtain ⟨x_2_0, x_2_1, _, _, _⟩ := x_2.out.box; have y_2 := Lib.hid (y_1.out.keep k_2); obtain ⟨y_2_0, y_2_1, _, _, _⟩ := y_2.out.box; have z_2 := Lib.hid (z_1.out.keep k_2); obtain ⟨z_2_0, z_2_1, _, _, _⟩ := z_2.out.box; have bw_2 := Lib.hid (bw_1.out.trans k_2); have U_2 := Lib.hid hu; have U_12 := Lib.hid (U_1.out.keep k_2); clear hu; clear k_2))
      | (go_at_call_of 23 (Value.agg #[Value.bool s, Value.slice a len cap]); ((with_reducible refine Calls.mono ((by have H := add_z (x_0.out.iz HL.out) (z_0.out.iz HL3.out) (by omega) (by omega); rw [HZ.out, HZ3.out] at H; exact H)) ?_); rintro e w_1 ⟨u1, rfl, hu, k_1⟩; have x_1 := Lib.hid (x_0.out.keep k_1); obtain ⟨x_1_0, x_1_1, _, _, _⟩ := x_1.out.box; have y_1 := Lib.hid (y_0.out.keep k_1); obtain ⟨y_1_0, y_1_1, _, _, _⟩ := y_1.out.box; have z_1 := Lib.hid (z_0.out.keep k_1); obtain ⟨z_1_0, z_1_1, _, _, _⟩ := z_1.out.box; have bw_1 := Lib.hid (bw_0.out.trans k_1); have U_1 := Lib.hid hu; clear hu; clear k_1)))
  all_goals
    go_wp2
    go_ret
    exact ⟨by show Ending.returned (.bool (m == IntKind.i64.wrap (c * σ))) = _; rw [HW2.out, beq_self_eq_true], bw_7.out⟩
set_option maxHeartbeats 4000000 in
theorem law7_mid {w : World} {s s2 s3 : Bool} {a a2 a3 : Option Addr} {len cap len2 cap2 len3 cap3 : Nat} {l l2 l3 : List Nat} (hr : Rd w a len cap l) (hr2 : Rd w a2 len2 cap2 l2) (hr3 : Rd w a3 len3 cap3 l3) (h1 : len ≤ 8) (h2 : len2 ≤ 8) (h3 : len3 ≤ 8) (hq : zC (iv s (nv l)) (iv s2 (nv l2)) ≤ 0 ∧ 0 < zC (iv s2 (nv l2)) (iv s3 (nv l3))) : Calls Try.prog 7 #[.agg #[.bool s, .slice a len cap], .agg #[.bool s2, .slice a2 len2 cap2], .agg #[.bool s3, .slice a3 len3 cap3]] w (BPost true w) := by
  obtain ⟨X0, Y0, Z0, K0⟩ := three_boxes w s a len cap l s2 a2 len2 cap2 l2 s3 a3 len3 cap3 l3 hr hr2 hr3
  have AW := Lib.hid (fun w1 => awake_c w1)
  unfold bxW at *
  have FW : Hid (∀ w1, Calls Try.prog 22 #[.agg #[.bool s, .slice a len cap], .agg #[.bool s2, .slice a2 len2 cap2], .agg #[.bool s3, .slice a3 len3 cap3]] w1 (BPost true w1)) := Lib.hid (fun w1 => few_0 hr.le_cap hr.cap_le hr2.le_cap hr2.cap_le hr3.le_cap hr3.cap_le h1 h2 h3)
  have hlen : l.length ≤ 8 := by rw [hr.len_eq]; omega
  obtain ⟨zx, hz⟩ : ∃ z, iv s (nv l) = z := ⟨_, rfl⟩
  have HZ := Lib.hid hz
  have HL := Lib.hid hlen
  have hb : zx.natAbs < BB ^ 8 := by rw [← hz, iv_abs']; exact Nat.lt_of_lt_of_le (nv_lt hr.lim) (Nat.pow_le_pow_right BB_pos hlen)
  have hlen2 : l2.length ≤ 8 := by rw [hr2.len_eq]; omega
  obtain ⟨zy, hz2⟩ : ∃ z, iv s2 (nv l2) = z := ⟨_, rfl⟩
  have HZ2 := Lib.hid hz2
  have HL2 := Lib.hid hlen2
  have hb2 : zy.natAbs < BB ^ 8 := by rw [← hz2, iv_abs']; exact Nat.lt_of_lt_of_le (nv_lt hr2.lim) (Nat.pow_le_pow_right BB_pos hlen2)
  have hlen3 : l3.length ≤ 8 := by rw [hr3.len_eq]; omega
  obtain ⟨zz, hz3⟩ : ∃ z, iv s3 (nv l3) = z := ⟨_, rfl⟩
  have HZ3 := Lib.hid hz3
  have HL3 := Lib.hid hlen3
  have hb3 : zz.natAbs < BB ^ 8 := by rw [← hz3, iv_abs']; exact Nat.lt_of_lt_of_le (nv_lt hr3.lim) (Nat.pow_le_pow_right BB_pos hlen3)
  have HXA : Hid ((zx + zz).natAbs < BB ^ 17) := Lib.hid (by have h := add_lt2 hb hb3; rw [show (8 + 8 + 1 : Nat) = 17 from rfl] at h; omega)
  have HYA : Hid ((zy + zz).natAbs < BB ^ 17) := Lib.hid (by have h := add_lt2 hb2 hb3; rw [show (8 + 8 + 1 : Nat) = 17 from rfl] at h; omega)
  have HYZ : Hid ((zy * zz).natAbs < BB ^ 16) := Lib.hid (by rw [Int.natAbs_mul]; exact mul_lt hb2 hb3)
  have HXZ : Hid ((zx * zz).natAbs < BB ^ 16) := Lib.hid (by rw [Int.natAbs_mul]; exact mul_lt hb hb3)
  rw [hz, hz2, hz3] at hq
  obtain ⟨c, hc⟩ : ∃ c, zC zx zy = c := ⟨_, rfl⟩
  obtain ⟨c2, hc2⟩ : ∃ c, zC zy zx = c := ⟨_, rfl⟩
  obtain ⟨d, hd⟩ : ∃ c, zC zy zz = c := ⟨_, rfl⟩
  obtain ⟨f, hf⟩ : ∃ c, zC zx zz = c := ⟨_, rfl⟩
  obtain ⟨σ, hσ⟩ : ∃ c, sgn zz = c := ⟨_, rfl⟩
  obtain ⟨m, hm⟩ : ∃ c, zC (zx * zz) (zy * zz) = c := ⟨_, rfl⟩
  have e1 := zC_facts zx zy
  have e2 := zC_facts zy zz
  have e3 := zC_facts zx zz
  rw [hc] at e1 hq
  rw [hd] at e2 hq
  rw [hf] at e3
  have hw : IntKind.i64.wrap (-c2) = c := by
    have : -c2 = c := by rw [← hc2, ← hc, zC_neg zx zy, Int.neg_neg]
    rw [this]; exact wrap_small (by omega)
  have HW2 : Hid (IntKind.i64.wrap (c * σ) = m) := Lib.hid (by
    rw [← hm, zC_mul, ← hc, ← hσ]; exact wrap_small (one_mul_sgn _ _ _))
  have hn : c ≤ 0 := by omega
  have hn1 : decide (c ≤ 0) = true := decide_eq_true hn
  have hm0 : ¬ d ≤ 0 := by omega
  have hm1 : decide (d ≤ 0) = false := decide_eq_false hm0
  have HC := Lib.hid hc
  have HC2 := Lib.hid hc2
  have HD := Lib.hid hd
  have HF := Lib.hid hf
  have HS := Lib.hid hσ
  have HM := Lib.hid hm
  clear hr hr2 hr3 hz hz2 hz3 hlen hlen2 hlen3 hb hb2 hb3 hc hc2 hd hf hσ hm e1 e2 e3 hq
  go_enter Try.func7, Try.ntmps7
  go_wp2_with fail
  refine Calls.mono (AW.out _) ?_
  rintro e w1 ⟨rfl, k1⟩
  have X1 := X0.keep k1
  have Y1 := Y0.keep k1
  have Z1 := Z0.keep k1
  have K1 := K0.trans k1
  obtain ⟨⟨q0, q1, _, _, _⟩, _⟩ := id X1
  obtain ⟨⟨q2, q3, _, _, _⟩, _⟩ := id Y1
  obtain ⟨⟨q4, q5, _, _, _⟩, _⟩ := id Z1
  clear X0 Y0 Z0 K0 k1
  go_wp2_with fail
  refine Calls.mono (FW.out _) ?_
  rintro e w2 ⟨rfl, k2⟩
  have X2 := X1.keep k2
  have Y2 := Y1.keep k2
  have Z2 := Z1.keep k2
  have K2 := K1.trans k2
  clear X1 Y1 Z1 K1 k2
  obtain ⟨⟨a2_0, a2_1, _, _, _⟩, _⟩ := id X2
  obtain ⟨⟨b2_0, b2_1, _, _, _⟩, _⟩ := id Y2
  obtain ⟨⟨c2_0, c2_1, _, _, _⟩, _⟩ := id Z2
  go_wp2_with fail
  refine Calls.mono ((by have H := cmp_z (X2.iz HL.out) (Y2.iz HL2.out) (by omega) (by omega); rw [HZ.out, HZ2.out, HC.out] at H; exact H)) ?_
  rintro e w3 ⟨rfl, k3⟩
  have X3 := X2.keep k3
  have Y3 := Y2.keep k3
  have Z3 := Z2.keep k3
  have K3 := K2.trans k3
  obtain ⟨⟨a3_0, a3_1, _, _, _⟩, _⟩ := id X3
  obtain ⟨⟨b3_0, b3_1, _, _, _⟩, _⟩ := id Y3
  obtain ⟨⟨c3_0, c3_1, _, _, _⟩, _⟩ := id Z3
  clear X2 Y2 Z2 K2 k3
  go_wp2_with fail
  refine Calls.mono ((by have H := rcmp_z (X3.iz HL.out) (Y3.iz HL2.out) (by omega) (by omega); rw [HZ.out, HZ2.out, HC.out] at H; exact H)) ?_
  rintro e w4 ⟨rfl, k4⟩
  have X4 := X3.keep k4
  have Y4 := Y3.keep k4
  have Z4 := Z3.keep k4
  have K4 := K3.trans k4
  obtain ⟨⟨a4_0, a4_1, _, _, _⟩, _⟩ := id X4
  obtain ⟨⟨b4_0, b4_1, _, _, _⟩, _⟩ := id Y4
  obtain ⟨⟨c4_0, c4_1, _, _, _⟩, _⟩ := id Z4
  clear X3 Y3 Z3 K3 k4
  go_wp2_with fail
  refine Calls.mono ((by have H := cmp_z (Y4.iz HL2.out) (X4.iz HL.out) (by omega) (by omega); rw [HZ.out, HZ2.out, HC2.out] at H; exact H)) ?_
  rintro e w5 ⟨rfl, k5⟩
  have X5 := X4.keep k5
  have Y5 := Y4.keep k5
  have Z5 := Z4.keep k5
  have K5 := K4.trans k5
  obtain ⟨⟨a5_0, a5_1, _, _, _⟩, _⟩ := id X5
  obtain ⟨⟨b5_0, b5_1, _, _, _⟩, _⟩ := id Y5
  obtain ⟨⟨c5_0, c5_1, _, _, _⟩, _⟩ := id Z5
  clear X4 Y4 Z4 K4 k5
  go_wp2_with fail
  refine Calls.mono ((by have H := cmp_z (Y5.iz HL2.out) (Z5.iz HL3.out) (by omega) (by omega); rw [HZ2.out, HZ3.out, HD.out] at H; exact H)) ?_
  rintro e w6 ⟨rfl, k6⟩
  have X6 := X5.keep k6
  have Y6 := Y5.keep k6
  have Z6 := Z5.keep k6
  have K6 := K5.trans k6
  obtain ⟨⟨a6_0, a6_1, _, _, _⟩, _⟩ := id X6
  obtain ⟨⟨b6_0, b6_1, _, _, _⟩, _⟩ := id Y6
  obtain ⟨⟨c6_0, c6_1, _, _, _⟩, _⟩ := id Z6
  clear X5 Y5 Z5 K5 k6
  have x_0 := Lib.hid (X6.keep (keep_drew _))
  have y_0 := Lib.hid (Y6.keep (keep_drew _))
  have z_0 := Lib.hid (Z6.keep (keep_drew _))
  have bw_0 := Lib.hid (K6.trans (keep_drew _))
  obtain ⟨p0, p1, _, _, _⟩ := x_0.out.box
  obtain ⟨p2, p3, _, _, _⟩ := y_0.out.box
  obtain ⟨p4, p5, _, _, _⟩ := z_0.out.box
  clear X6 Y6 Z6 K6
  go_wp2
  go_region_held3 (fun w' => w'.cell? ⟨w.heap.size, 0, none⟩ = some (.bool s) ∧ w'.cell? ⟨w.heap.size, 1, none⟩ = some (.slice a len cap) ∧ w'.cell? ⟨(w.heap.size + 1), 0, none⟩ = some (.bool s2) ∧ w'.cell? ⟨(w.heap.size + 1), 1, none⟩ = some (.slice a2 len2 cap2) ∧ w'.cell? ⟨(w.heap.size + 1 + 1), 0, none⟩ = some (.bool s3) ∧ w'.cell? ⟨(w.heap.size + 1 + 1), 1, none⟩ = some (.slice a3 len3 cap3)) (first | exact ⟨x_7_0, x_7_1, y_7_0, y_7_1, z_7_0, z_7_1⟩ | exact ⟨x_6_0, x_6_1, y_6_0, y_6_1, z_6_0, z_6_1⟩ | exact ⟨x_5_0, x_5_1, y_5_0, y_5_1, z_5_0, z_5_1⟩ | exact ⟨x_4_0, x_4_1, y_4_0, y_4_1, z_4_0, z_4_1⟩ | exact ⟨x_3_0, x_3_1, y_3_0, y_3_1, z_3_0, z_3_1⟩ | exact ⟨x_2_0, x_2_1, y_2_0, y_2_1, z_2_0, z_2_1⟩ | exact ⟨x_1_0, x_1_1, y_1_0, y_1_1, z_1_0, z_1_1⟩ | go_keep)
    (first
      | (go_at_call 16; ((with_reducible refine Calls.mono ((by have H := sign_z (z_6.out.iz HL3.out) (by omega); rw [HZ3.out, HS.out] at H; exact H)) ?_); rintro e w_7 ⟨rfl, k_7⟩; have x_7 := Lib.hid (x_6.out.keep k_7); obtain ⟨x_7_0, x_7_1, _, _, _⟩ := x_7.out.box; have y_7 := Lib.hid (y_6.out.keep k_7); obtain ⟨y_7_0, y_7_1, _, _, _⟩ := y_7.out.box; have z_7 := Lib.hid (z_6.out.keep k_7); obtain ⟨z_7_0, z_7_1, _, _, _⟩ := z_7.out.box; have bw_7 := Lib.hid (bw_6.out.trans k_7); clear k_7))
      | (go_at_call 30; ((with_reducible refine Calls.mono ((by have H := cmp_z (U_45.out.iz (k := 16) HXZ.out) (U_5.out.iz (k := 16) HYZ.out) (by omega) (by omega); rw [HM.out] at H; exact H)) ?_); rintro e w_6 ⟨rfl, k_6⟩; have x_6 := Lib.hid (x_5.out.keep k_6); obtain ⟨x_6_0, x_6_1, _, _, _⟩ := x_6.out.box; have y_6 := Lib.hid (y_5.out.keep k_6); obtain ⟨y_6_0, y_6_1, _, _, _⟩ := y_6.out.box; have z_6 := Lib.hid (z_5.out.keep k_6); obtain ⟨z_6_0, z_6_1, _, _, _⟩ := z_6.out.box; have bw_6 := Lib.hid (bw_5.out.trans k_6); clear k_6))
      | (go_at_call_of 28 (Value.agg #[Value.bool s2, Value.slice a2 len2 cap2]); ((with_reducible refine Calls.mono ((by have H := mul_z (y_4.out.iz HL2.out) (z_4.out.iz HL3.out) (by omega) (by omega) (.inl (by omega)); rw [HZ2.out, HZ3.out] at H; exact H)) ?_); rintro e w_5 ⟨u5, rfl, hu, k_5⟩; have x_5 := Lib.hid (x_4.out.keep k_5); obtain ⟨x_5_0, x_5_1, _, _, _⟩ := x_5.out.box; have y_5 := Lib.hid (y_4.out.keep k_5); obtain ⟨y_5_0, y_5_1, _, _, _⟩ := y_5.out.box; have z_5 := Lib.hid (z_4.out.keep k_5); obtain ⟨z_5_0, z_5_1, _, _, _⟩ := z_5.out.box; have bw_5 := Lib.hid (bw_4.out.trans k_5); have U_5 := Lib.hid hu; have U_45 := Lib.hid (U_4.out.keep k_5); clear hu; clear k_5))
      | (go_at_call_of 28 (Value.agg #[Value.bool s, Value.slice a len cap]); ((with_reducible refine Calls.mono ((by have H := mul_z (x_3.out.iz HL.out) (z_3.out.iz HL3.out) (by omega) (by omega) (.inl (by omega)); rw [HZ.out, HZ3.out] at H; exact H)) ?_); rintro e w_4 ⟨u4, rfl, hu, k_4⟩; have x_4 := Lib.hid (x_3.out.keep k_4); obtain ⟨x_4_0, x_4_1, _, _, _⟩ := x_4.out.box; have y_4 := Lib.hid (y_3.out.keep k_4); obtain ⟨y_4_0, y_4_1, _, _, _⟩ := y_4.out.box; have z_4 := Lib.hid (z_3.out.keep k_4); obtain ⟨z_4_0, z_4_1, _, _, _⟩ := z_4.out.box; have bw_4 := Lib.hid (bw_3.out.trans k_4); have U_4 := Lib.hid hu; clear hu; clear k_4))
      | (go_at_call 30; ((with_reducible refine Calls.mono ((by have H := cmp_z (U_12.out.iz (k := 17) HXA.out) (U_2.out.iz (k := 17) HYA.out) (by omega) (by omega); rw [zC_add, HC.out] at H; exact H)) ?_); rintro e w_3 ⟨rfl, k_3⟩; have x_3 := Lib.hid (x_2.out.keep k_3); obtain ⟨x_3_0, x_3_1, _, _, _⟩ := x_3.out.box; have y_3 := Lib.hid (y_2.out.keep k_3); obtain ⟨y_3_0, y_3_1, _, _, _⟩ := y_3.out.box; have z_3 := Lib.hid (z_2.out.keep k_3); obtain ⟨z_3_0, z_3_1, _, _, _⟩ := z_3.out.box; have bw_3 := Lib.hid (bw_2.out.trans k_3); clear k_3))
      | (go_at_call_of 23 (Value.agg #[Value.bool s2, Value.slice a2 len2 cap2]); ((with_reducible refine Calls.mono ((by have H := add_z (y_1.out.iz HL2.out) (z_1.out.iz HL3.out) (by omega) (by omega); rw [HZ2.out, HZ3.out] at H; exact H)) ?_); rintro e w_2 ⟨u2, rfl, hu, k_2⟩; have x_2 := Lib.hid (x_1.out.keep k_2); obtain ⟨x_2_0, x_2_1, _, _, _⟩ := x_2.out.box; have y_2 := Lib.hid (y_1.out.keep k_2); obtain ⟨y_2_0, y_2_1, _, _, _⟩ := y_2.out.box; have z_2 := Lib.hid (z_1.out.keep k_2); obtain ⟨z_2_0, z_2_1, _, _, _⟩ := z_2.out.box; have bw_2 := Lib.hid (bw_1.out.trans k_2); have U_2 := Lib.hid hu; have U_12 := Lib.hid (U_1.out.keep k_2); clear hu; clear k_2))
      | (go_at_call_of 23 (Value.agg #[Value.bool s, Value.slice a len cap]); ((with_reducible refine Calls.mono ((by have H := add_z (x_0.out.iz HL.out) (z_0.out.iz HL3.out) (by omega) (by omega); rw [HZ.out, HZ3.out] at H; exact H)) ?_); rintro e w_1 ⟨u1, rfl, hu, k_1⟩; have x_1 := Lib.hid (x_0.out.keep k_1); obtain ⟨x_1_0, x_1_1, _, _, _⟩ := x_1.out.box; have y_1 := Lib.hid (y_0.out.keep k_1); obtain ⟨y_1_0, y_1_1, _, _, _⟩ := y_1.out.box; have z_1 := Lib.hid (z_0.out.keep k_1); obtain ⟨z_1_0, z_1_1, _, _, _⟩ := z_1.out.box; have bw_1 := Lib.hid (bw_0.out.trans k_1); have U_1 := Lib.hid hu; clear hu; clear k_1)))
  all_goals
    go_wp2
    go_ret
    exact ⟨by show Ending.returned (.bool (m == IntKind.i64.wrap (c * σ))) = _; rw [HW2.out, beq_self_eq_true], bw_7.out⟩
set_option maxHeartbeats 4000000 in
theorem law7_low {w : World} {s s2 s3 : Bool} {a a2 a3 : Option Addr} {len cap len2 cap2 len3 cap3 : Nat} {l l2 l3 : List Nat} (hr : Rd w a len cap l) (hr2 : Rd w a2 len2 cap2 l2) (hr3 : Rd w a3 len3 cap3 l3) (h1 : len ≤ 8) (h2 : len2 ≤ 8) (h3 : len3 ≤ 8) (hq : zC (iv s (nv l)) (iv s2 (nv l2)) ≤ 0 ∧ zC (iv s2 (nv l2)) (iv s3 (nv l3)) ≤ 0) : Calls Try.prog 7 #[.agg #[.bool s, .slice a len cap], .agg #[.bool s2, .slice a2 len2 cap2], .agg #[.bool s3, .slice a3 len3 cap3]] w (BPost true w) := by
  obtain ⟨X0, Y0, Z0, K0⟩ := three_boxes w s a len cap l s2 a2 len2 cap2 l2 s3 a3 len3 cap3 l3 hr hr2 hr3
  have AW := Lib.hid (fun w1 => awake_c w1)
  unfold bxW at *
  have FW : Hid (∀ w1, Calls Try.prog 22 #[.agg #[.bool s, .slice a len cap], .agg #[.bool s2, .slice a2 len2 cap2], .agg #[.bool s3, .slice a3 len3 cap3]] w1 (BPost true w1)) := Lib.hid (fun w1 => few_0 hr.le_cap hr.cap_le hr2.le_cap hr2.cap_le hr3.le_cap hr3.cap_le h1 h2 h3)
  have hlen : l.length ≤ 8 := by rw [hr.len_eq]; omega
  obtain ⟨zx, hz⟩ : ∃ z, iv s (nv l) = z := ⟨_, rfl⟩
  have HZ := Lib.hid hz
  have HL := Lib.hid hlen
  have hb : zx.natAbs < BB ^ 8 := by rw [← hz, iv_abs']; exact Nat.lt_of_lt_of_le (nv_lt hr.lim) (Nat.pow_le_pow_right BB_pos hlen)
  have hlen2 : l2.length ≤ 8 := by rw [hr2.len_eq]; omega
  obtain ⟨zy, hz2⟩ : ∃ z, iv s2 (nv l2) = z := ⟨_, rfl⟩
  have HZ2 := Lib.hid hz2
  have HL2 := Lib.hid hlen2
  have hb2 : zy.natAbs < BB ^ 8 := by rw [← hz2, iv_abs']; exact Nat.lt_of_lt_of_le (nv_lt hr2.lim) (Nat.pow_le_pow_right BB_pos hlen2)
  have hlen3 : l3.length ≤ 8 := by rw [hr3.len_eq]; omega
  obtain ⟨zz, hz3⟩ : ∃ z, iv s3 (nv l3) = z := ⟨_, rfl⟩
  have HZ3 := Lib.hid hz3
  have HL3 := Lib.hid hlen3
  have hb3 : zz.natAbs < BB ^ 8 := by rw [← hz3, iv_abs']; exact Nat.lt_of_lt_of_le (nv_lt hr3.lim) (Nat.pow_le_pow_right BB_pos hlen3)
  have HXA : Hid ((zx + zz).natAbs < BB ^ 17) := Lib.hid (by have h := add_lt2 hb hb3; rw [show (8 + 8 + 1 : Nat) = 17 from rfl] at h; omega)
  have HYA : Hid ((zy + zz).natAbs < BB ^ 17) := Lib.hid (by have h := add_lt2 hb2 hb3; rw [show (8 + 8 + 1 : Nat) = 17 from rfl] at h; omega)
  have HYZ : Hid ((zy * zz).natAbs < BB ^ 16) := Lib.hid (by rw [Int.natAbs_mul]; exact mul_lt hb2 hb3)
  have HXZ : Hid ((zx * zz).natAbs < BB ^ 16) := Lib.hid (by rw [Int.natAbs_mul]; exact mul_lt hb hb3)
  rw [hz, hz2, hz3] at hq
  obtain ⟨c, hc⟩ : ∃ c, zC zx zy = c := ⟨_, rfl⟩
  obtain ⟨c2, hc2⟩ : ∃ c, zC zy zx = c := ⟨_, rfl⟩
  obtain ⟨d, hd⟩ : ∃ c, zC zy zz = c := ⟨_, rfl⟩
  obtain ⟨f, hf⟩ : ∃ c, zC zx zz = c := ⟨_, rfl⟩
  obtain ⟨σ, hσ⟩ : ∃ c, sgn zz = c := ⟨_, rfl⟩
  obtain ⟨m, hm⟩ : ∃ c, zC (zx * zz) (zy * zz) = c := ⟨_, rfl⟩
  have e1 := zC_facts zx zy
  have e2 := zC_facts zy zz
  have e3 := zC_facts zx zz
  rw [hc] at e1 hq
  rw [hd] at e2 hq
  rw [hf] at e3
  have hw : IntKind.i64.wrap (-c2) = c := by
    have : -c2 = c := by rw [← hc2, ← hc, zC_neg zx zy, Int.neg_neg]
    rw [this]; exact wrap_small (by omega)
  have HW2 : Hid (IntKind.i64.wrap (c * σ) = m) := Lib.hid (by
    rw [← hm, zC_mul, ← hc, ← hσ]; exact wrap_small (one_mul_sgn _ _ _))
  have hn : c ≤ 0 := by omega
  have hn1 : decide (c ≤ 0) = true := decide_eq_true hn
  have hm0 : d ≤ 0 := by omega
  have hm1 : decide (d ≤ 0) = true := decide_eq_true hm0
  have hf0 : ¬ 0 < f := by omega
  have hf1 : decide (0 < f) = false := decide_eq_false hf0
  have HC := Lib.hid hc
  have HC2 := Lib.hid hc2
  have HD := Lib.hid hd
  have HF := Lib.hid hf
  have HS := Lib.hid hσ
  have HM := Lib.hid hm
  clear hr hr2 hr3 hz hz2 hz3 hlen hlen2 hlen3 hb hb2 hb3 hc hc2 hd hf hσ hm e1 e2 e3 hq
  go_enter Try.func7, Try.ntmps7
  go_wp2_with fail
  refine Calls.mono (AW.out _) ?_
  rintro e w1 ⟨rfl, k1⟩
  have X1 := X0.keep k1
  have Y1 := Y0.keep k1
  have Z1 := Z0.keep k1
  have K1 := K0.trans k1
  obtain ⟨⟨q0, q1, _, _, _⟩, _⟩ := id X1
  obtain ⟨⟨q2, q3, _, _, _⟩, _⟩ := id Y1
  obtain ⟨⟨q4, q5, _, _, _⟩, _⟩ := id Z1
  clear X0 Y0 Z0 K0 k1
  go_wp2_with fail
  refine Calls.mono (FW.out _) ?_
  rintro e w2 ⟨rfl, k2⟩
  have X2 := X1.keep k2
  have Y2 := Y1.keep k2
  have Z2 := Z1.keep k2
  have K2 := K1.trans k2
  clear X1 Y1 Z1 K1 k2
  obtain ⟨⟨a2_0, a2_1, _, _, _⟩, _⟩ := id X2
  obtain ⟨⟨b2_0, b2_1, _, _, _⟩, _⟩ := id Y2
  obtain ⟨⟨c2_0, c2_1, _, _, _⟩, _⟩ := id Z2
  go_wp2_with fail
  refine Calls.mono ((by have H := cmp_z (X2.iz HL.out) (Y2.iz HL2.out) (by omega) (by omega); rw [HZ.out, HZ2.out, HC.out] at H; exact H)) ?_
  rintro e w3 ⟨rfl, k3⟩
  have X3 := X2.keep k3
  have Y3 := Y2.keep k3
  have Z3 := Z2.keep k3
  have K3 := K2.trans k3
  obtain ⟨⟨a3_0, a3_1, _, _, _⟩, _⟩ := id X3
  obtain ⟨⟨b3_0, b3_1, _, _, _⟩, _⟩ := id Y3
  obtain ⟨⟨c3_0, c3_1, _, _, _⟩, _⟩ := id Z3
  clear X2 Y2 Z2 K2 k3
  go_wp2_with fail
  refine Calls.mono ((by have H := rcmp_z (X3.iz HL.out) (Y3.iz HL2.out) (by omega) (by omega); rw [HZ.out, HZ2.out, HC.out] at H; exact H)) ?_
  rintro e w4 ⟨rfl, k4⟩
  have X4 := X3.keep k4
  have Y4 := Y3.keep k4
  have Z4 := Z3.keep k4
  have K4 := K3.trans k4
  obtain ⟨⟨a4_0, a4_1, _, _, _⟩, _⟩ := id X4
  obtain ⟨⟨b4_0, b4_1, _, _, _⟩, _⟩ := id Y4
  obtain ⟨⟨c4_0, c4_1, _, _, _⟩, _⟩ := id Z4
  clear X3 Y3 Z3 K3 k4
  go_wp2_with fail
  refine Calls.mono ((by have H := cmp_z (Y4.iz HL2.out) (X4.iz HL.out) (by omega) (by omega); rw [HZ.out, HZ2.out, HC2.out] at H; exact H)) ?_
  rintro e w5 ⟨rfl, k5⟩
  have X5 := X4.keep k5
  have Y5 := Y4.keep k5
  have Z5 := Z4.keep k5
  have K5 := K4.trans k5
  obtain ⟨⟨a5_0, a5_1, _, _, _⟩, _⟩ := id X5
  obtain ⟨⟨b5_0, b5_1, _, _, _⟩, _⟩ := id Y5
  obtain ⟨⟨c5_0, c5_1, _, _, _⟩, _⟩ := id Z5
  clear X4 Y4 Z4 K4 k5
  go_wp2_with fail
  refine Calls.mono ((by have H := cmp_z (Y5.iz HL2.out) (Z5.iz HL3.out) (by omega) (by omega); rw [HZ2.out, HZ3.out, HD.out] at H; exact H)) ?_
  rintro e w6 ⟨rfl, k6⟩
  have X6 := X5.keep k6
  have Y6 := Y5.keep k6
  have Z6 := Z5.keep k6
  have K6 := K5.trans k6
  obtain ⟨⟨a6_0, a6_1, _, _, _⟩, _⟩ := id X6
  obtain ⟨⟨b6_0, b6_1, _, _, _⟩, _⟩ := id Y6
  obtain ⟨⟨c6_0, c6_1, _, _, _⟩, _⟩ := id Z6
  clear X5 Y5 Z5 K5 k6
  go_wp2_with fail
  refine Calls.mono ((by have H := cmp_z (X6.iz HL.out) (Z6.iz HL3.out) (by omega) (by omega); rw [HZ.out, HZ3.out, HF.out] at H; exact H)) ?_
  rintro e w7 ⟨rfl, k7⟩
  have X7 := X6.keep k7
  have Y7 := Y6.keep k7
  have Z7 := Z6.keep k7
  have K7 := K6.trans k7
  obtain ⟨⟨a7_0, a7_1, _, _, _⟩, _⟩ := id X7
  obtain ⟨⟨b7_0, b7_1, _, _, _⟩, _⟩ := id Y7
  obtain ⟨⟨c7_0, c7_1, _, _, _⟩, _⟩ := id Z7
  clear X6 Y6 Z6 K6 k7
  have x_0 := Lib.hid (X7.keep (keep_drew _))
  have y_0 := Lib.hid (Y7.keep (keep_drew _))
  have z_0 := Lib.hid (Z7.keep (keep_drew _))
  have bw_0 := Lib.hid (K7.trans (keep_drew _))
  obtain ⟨p0, p1, _, _, _⟩ := x_0.out.box
  obtain ⟨p2, p3, _, _, _⟩ := y_0.out.box
  obtain ⟨p4, p5, _, _, _⟩ := z_0.out.box
  clear X7 Y7 Z7 K7
  go_wp2
  go_region_held3 (fun w' => w'.cell? ⟨w.heap.size, 0, none⟩ = some (.bool s) ∧ w'.cell? ⟨w.heap.size, 1, none⟩ = some (.slice a len cap) ∧ w'.cell? ⟨(w.heap.size + 1), 0, none⟩ = some (.bool s2) ∧ w'.cell? ⟨(w.heap.size + 1), 1, none⟩ = some (.slice a2 len2 cap2) ∧ w'.cell? ⟨(w.heap.size + 1 + 1), 0, none⟩ = some (.bool s3) ∧ w'.cell? ⟨(w.heap.size + 1 + 1), 1, none⟩ = some (.slice a3 len3 cap3)) (first | exact ⟨x_7_0, x_7_1, y_7_0, y_7_1, z_7_0, z_7_1⟩ | exact ⟨x_6_0, x_6_1, y_6_0, y_6_1, z_6_0, z_6_1⟩ | exact ⟨x_5_0, x_5_1, y_5_0, y_5_1, z_5_0, z_5_1⟩ | exact ⟨x_4_0, x_4_1, y_4_0, y_4_1, z_4_0, z_4_1⟩ | exact ⟨x_3_0, x_3_1, y_3_0, y_3_1, z_3_0, z_3_1⟩ | exact ⟨x_2_0, x_2_1, y_2_0, y_2_1, z_2_0, z_2_1⟩ | exact ⟨x_1_0, x_1_1, y_1_0, y_1_1, z_1_0, z_1_1⟩ | go_keep)
    (first
      | (go_at_call 16; ((with_reducible refine Calls.mono ((by have H := sign_z (z_6.out.iz HL3.out) (by omega); rw [HZ3.out, HS.out] at H; exact H)) ?_); rintro e w_7 ⟨rfl, k_7⟩; have x_7 := Lib.hid (x_6.out.keep k_7); obtain ⟨x_7_0, x_7_1, _, _, _⟩ := x_7.out.box; have y_7 := Lib.hid (y_6.out.keep k_7); obtain ⟨y_7_0, y_7_1, _, _, _⟩ := y_7.out.box; have z_7 := Lib.hid (z_6.out.keep k_7); obtain ⟨z_7_0, z_7_1, _, _, _⟩ := z_7.out.box; have bw_7 := Lib.hid (bw_6.out.trans k_7); clear k_7))
      | (go_at_call 30; ((with_reducible refine Calls.mono ((by have H := cmp_z (U_45.out.iz (k := 16) HXZ.out) (U_5.out.iz (k := 16) HYZ.out) (by omega) (by omega); rw [HM.out] at H; exact H)) ?_); rintro e w_6 ⟨rfl, k_6⟩; have x_6 := Lib.hid (x_5.out.keep k_6); obtain ⟨x_6_0, x_6_1, _, _, _⟩ := x_6.out.box; have y_6 := Lib.hid (y_5.out.keep k_6); obtain ⟨y_6_0, y_6_1, _, _, _⟩ := y_6.out.box; have z_6 := Lib.hid (z_5.out.keep k_6); obtain ⟨z_6_0, z_6_1, _, _, _⟩ := z_6.out.box; have bw_6 := Lib.hid (bw_5.out.trans k_6); clear k_6))
      | (go_at_call_of 28 (Value.agg #[Value.bool s2, Value.slice a2 len2 cap2]); ((with_reducible refine Calls.mono ((by have H := mul_z (y_4.out.iz HL2.out) (z_4.out.iz HL3.out) (by omega) (by omega) (.inl (by omega)); rw [HZ2.out, HZ3.out] at H; exact H)) ?_); rintro e w_5 ⟨u5, rfl, hu, k_5⟩; have x_5 := Lib.hid (x_4.out.keep k_5); obtain ⟨x_5_0, x_5_1, _, _, _⟩ := x_5.out.box; have y_5 := Lib.hid (y_4.out.keep k_5); obtain ⟨y_5_0, y_5_1, _, _, _⟩ := y_5.out.box; have z_5 := Lib.hid (z_4.out.keep k_5); obtain ⟨z_5_0, z_5_1, _, _, _⟩ := z_5.out.box; have bw_5 := Lib.hid (bw_4.out.trans k_5); have U_5 := Lib.hid hu; have U_45 := Lib.hid (U_4.out.keep k_5); clear hu; clear k_5))
      | (go_at_call_of 28 (Value.agg #[Value.bool s, Value.slice a len cap]); ((with_reducible refine Calls.mono ((by have H := mul_z (x_3.out.iz HL.out) (z_3.out.iz HL3.out) (by omega) (by omega) (.inl (by omega)); rw [HZ.out, HZ3.out] at H; exact H)) ?_); rintro e w_4 ⟨u4, rfl, hu, k_4⟩; have x_4 := Lib.hid (x_3.out.keep k_4); obtain ⟨x_4_0, x_4_1, _, _, _⟩ := x_4.out.box; have y_4 := Lib.hid (y_3.out.keep k_4); obtain ⟨y_4_0, y_4_1, _, _, _⟩ := y_4.out.box; have z_4 := Lib.hid (z_3.out.keep k_4); obtain ⟨z_4_0, z_4_1, _, _, _⟩ := z_4.out.box; have bw_4 := Lib.hid (bw_3.out.trans k_4); have U_4 := Lib.hid hu; clear hu; clear k_4))
      | (go_at_call 30; ((with_reducible refine Calls.mono ((by have H := cmp_z (U_12.out.iz (k := 17) HXA.out) (U_2.out.iz (k := 17) HYA.out) (by omega) (by omega); rw [zC_add, HC.out] at H; exact H)) ?_); rintro e w_3 ⟨rfl, k_3⟩; have x_3 := Lib.hid (x_2.out.keep k_3); obtain ⟨x_3_0, x_3_1, _, _, _⟩ := x_3.out.box; have y_3 := Lib.hid (y_2.out.keep k_3); obtain ⟨y_3_0, y_3_1, _, _, _⟩ := y_3.out.box; have z_3 := Lib.hid (z_2.out.keep k_3); obtain ⟨z_3_0, z_3_1, _, _, _⟩ := z_3.out.box; have bw_3 := Lib.hid (bw_2.out.trans k_3); clear k_3))
      | (go_at_call_of 23 (Value.agg #[Value.bool s2, Value.slice a2 len2 cap2]); ((with_reducible refine Calls.mono ((by have H := add_z (y_1.out.iz HL2.out) (z_1.out.iz HL3.out) (by omega) (by omega); rw [HZ2.out, HZ3.out] at H; exact H)) ?_); rintro e w_2 ⟨u2, rfl, hu, k_2⟩; have x_2 := Lib.hid (x_1.out.keep k_2); obtain ⟨x_2_0, x_2_1, _, _, _⟩ := x_2.out.box; have y_2 := Lib.hid (y_1.out.keep k_2); obtain ⟨y_2_0, y_2_1, _, _, _⟩ := y_2.out.box; have z_2 := Lib.hid (z_1.out.keep k_2); obtain ⟨z_2_0, z_2_1, _, _, _⟩ := z_2.out.box; have bw_2 := Lib.hid (bw_1.out.trans k_2); have U_2 := Lib.hid hu; have U_12 := Lib.hid (U_1.out.keep k_2); clear hu; clear k_2))
      | (go_at_call_of 23 (Value.agg #[Value.bool s, Value.slice a len cap]); ((with_reducible refine Calls.mono ((by have H := add_z (x_0.out.iz HL.out) (z_0.out.iz HL3.out) (by omega) (by omega); rw [HZ.out, HZ3.out] at H; exact H)) ?_); rintro e w_1 ⟨u1, rfl, hu, k_1⟩; have x_1 := Lib.hid (x_0.out.keep k_1); obtain ⟨x_1_0, x_1_1, _, _, _⟩ := x_1.out.box; have y_1 := Lib.hid (y_0.out.keep k_1); obtain ⟨y_1_0, y_1_1, _, _, _⟩ := y_1.out.box; have z_1 := Lib.hid (z_0.out.keep k_1); obtain ⟨z_1_0, z_1_1, _, _, _⟩ := z_1.out.box; have bw_1 := Lib.hid (bw_0.out.trans k_1); have U_1 := Lib.hid hu; clear hu; clear k_1)))
  all_goals
    go_wp2
    go_ret
    exact ⟨by show Ending.returned (.bool (m == IntKind.i64.wrap (c * σ))) = _; rw [HW2.out, beq_self_eq_true], bw_7.out⟩
theorem law7_c {w : World} {s s2 s3 : Bool} {a a2 a3 : Option Addr} {len cap len2 cap2 len3 cap3 : Nat} {l l2 l3 : List Nat} (hr : Rd w a len cap l) (hr2 : Rd w a2 len2 cap2 l2) (hr3 : Rd w a3 len3 cap3 l3) : Calls Try.prog 7 #[.agg #[.bool s, .slice a len cap], .agg #[.bool s2, .slice a2 len2 cap2], .agg #[.bool s3, .slice a3 len3 cap3]] w (BPost true w) := by
  by_cases h : len ≤ 8 ∧ len2 ≤ 8 ∧ len3 ≤ 8
  · by_cases h1 : 0 < zC (iv s (nv l)) (iv s2 (nv l2))
    · exact law7_up hr hr2 hr3 h.1 h.2.1 h.2.2 ⟨h1, rfl⟩
    · by_cases h2 : 0 < zC (iv s2 (nv l2)) (iv s3 (nv l3))
      · exact law7_mid hr hr2 hr3 h.1 h.2.1 h.2.2 ⟨by omega, h2⟩
      · exact law7_low hr hr2 hr3 h.1 h.2.1 h.2.2 ⟨by omega, by omega⟩
  · exact law7_many hr hr2 hr3 h
end Go.Proofs.Ytjkfnnoakjdgmaa
