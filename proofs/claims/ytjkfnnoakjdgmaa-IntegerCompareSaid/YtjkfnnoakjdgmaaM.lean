/- Walks of layer 2: the laws of three integers: few, Mul. -/
import Derived.Test.YtjkfnnoakjdgmaaL
namespace Go.Proofs.Ytjkfnnoakjdgmaa
open Go.RowKit
set_option linter.unusedVariables false
def bxW (w : World) (s : Bool) (a : Option Addr) (n c : Nat) (s2 : Bool) (a2 : Option Addr) (n2 c2 : Nat) (s3 : Bool) (a3 : Option Addr) (n3 c3 : Nat) : World :=
  ((w.alloc (.cells #[.bool s, .slice a n c] 25)).alloc (.cells #[.bool s2, .slice a2 n2 c2] 25)).alloc (.cells #[.bool s3, .slice a3 n3 c3] 25)
theorem three_boxes (w : World) (s : Bool) (a : Option Addr) (n c : Nat) (l : List Nat) (s2 : Bool) (a2 : Option Addr) (n2 c2 : Nat) (l2 : List Nat) (s3 : Bool) (a3 : Option Addr) (n3 c3 : Nat) (l3 : List Nat)
    (hr : Rd w a n c l) (hr2 : Rd w a2 n2 c2 l2) (hr3 : Rd w a3 n3 c3 l3) :
    Bx w.heap.size s a n c l (bxW w s a n c s2 a2 n2 c2 s3 a3 n3 c3) ∧ Bx (w.heap.size + 1) s2 a2 n2 c2 l2 (bxW w s a n c s2 a2 n2 c2 s3 a3 n3 c3) ∧ Bx (w.heap.size + 1 + 1) s3 a3 n3 c3 l3 (bxW w s a n c s2 a2 n2 c2 s3 a3 n3 c3) ∧ Keep w (bxW w s a n c s2 a2 n2 c2 s3 a3 n3 c3) :=
  ⟨⟨(RBox.new w s a n c).keep (((Keep.refl _).alloc _).alloc _), ((hr.alloc _).alloc _).alloc _⟩, ⟨((RBox.new (w.alloc _) s2 a2 n2 c2).at (sz1 _ _)).keep ((Keep.refl _).alloc _), ((hr2.alloc _).alloc _).alloc _⟩,
   ⟨(RBox.new ((w.alloc _).alloc _) s3 a3 n3 c3).at (sz2 _ _ _), ((hr3.alloc _).alloc _).alloc _⟩, (((Keep.refl w).alloc _).alloc _).alloc _⟩
theorem few_0 {w : World} {s s2 s3 : Bool} {a a2 a3 : Option Addr} {len cap len2 cap2 len3 cap3 : Nat} (g1 : len ≤ cap) (g2 : cap ≤ 9223372036854775807) (g3 : len2 ≤ cap2) (g4 : cap2 ≤ 9223372036854775807) (g5 : len3 ≤ cap3) (g6 : cap3 ≤ 9223372036854775807) (h1 : len ≤ 8) (h2 : len2 ≤ 8) (h3 : len3 ≤ 8) : Calls Try.prog 22 #[.agg #[.bool s, .slice a len cap], .agg #[.bool s2, .slice a2 len2 cap2], .agg #[.bool s3, .slice a3 len3 cap3]] w (BPost true w) := by
  have d1 : decide ((len : Int) ≤ 8) = true := decide_eq_true (by omega)
  have d2 : decide ((len2 : Int) ≤ 8) = true := decide_eq_true (by omega)
  have d3 : decide ((len3 : Int) ≤ 8) = true := decide_eq_true (by omega)
  go_enter Try.func22, Try.ntmps22
  go_wp2_with fail
  go_ret
  exact ⟨rfl, (((Keep.refl _).alloc _).alloc _).alloc _⟩
theorem few_1 {w : World} {s s2 s3 : Bool} {a a2 a3 : Option Addr} {len cap len2 cap2 len3 cap3 : Nat} (g1 : len ≤ cap) (g2 : cap ≤ 9223372036854775807) (g3 : len2 ≤ cap2) (g4 : cap2 ≤ 9223372036854775807) (g5 : len3 ≤ cap3) (g6 : cap3 ≤ 9223372036854775807) (h1 : ¬ len ≤ 8) : Calls Try.prog 22 #[.agg #[.bool s, .slice a len cap], .agg #[.bool s2, .slice a2 len2 cap2], .agg #[.bool s3, .slice a3 len3 cap3]] w (BPost false w) := by
  have d1 : decide ((len : Int) ≤ 8) = false := decide_eq_false (by omega)
  go_enter Try.func22, Try.ntmps22
  go_wp2_with fail
  go_ret
  exact ⟨rfl, (((Keep.refl _).alloc _).alloc _).alloc _⟩
theorem few_2 {w : World} {s s2 s3 : Bool} {a a2 a3 : Option Addr} {len cap len2 cap2 len3 cap3 : Nat} (g1 : len ≤ cap) (g2 : cap ≤ 9223372036854775807) (g3 : len2 ≤ cap2) (g4 : cap2 ≤ 9223372036854775807) (g5 : len3 ≤ cap3) (g6 : cap3 ≤ 9223372036854775807) (h1 : len ≤ 8) (h2 : ¬ len2 ≤ 8) : Calls Try.prog 22 #[.agg #[.bool s, .slice a len cap], .agg #[.bool s2, .slice a2 len2 cap2], .agg #[.bool s3, .slice a3 len3 cap3]] w (BPost false w) := by
  have d1 : decide ((len : Int) ≤ 8) = true := decide_eq_true (by omega)
  have d2 : decide ((len2 : Int) ≤ 8) = false := decide_eq_false (by omega)
  go_enter Try.func22, Try.ntmps22
  go_wp2_with fail
  go_ret
  exact ⟨rfl, (((Keep.refl _).alloc _).alloc _).alloc _⟩
theorem few_3 {w : World} {s s2 s3 : Bool} {a a2 a3 : Option Addr} {len cap len2 cap2 len3 cap3 : Nat} (g1 : len ≤ cap) (g2 : cap ≤ 9223372036854775807) (g3 : len2 ≤ cap2) (g4 : cap2 ≤ 9223372036854775807) (g5 : len3 ≤ cap3) (g6 : cap3 ≤ 9223372036854775807) (h1 : len ≤ 8) (h2 : len2 ≤ 8) (h3 : ¬ len3 ≤ 8) : Calls Try.prog 22 #[.agg #[.bool s, .slice a len cap], .agg #[.bool s2, .slice a2 len2 cap2], .agg #[.bool s3, .slice a3 len3 cap3]] w (BPost false w) := by
  have d1 : decide ((len : Int) ≤ 8) = true := decide_eq_true (by omega)
  have d2 : decide ((len2 : Int) ≤ 8) = true := decide_eq_true (by omega)
  have d3 : decide ((len3 : Int) ≤ 8) = false := decide_eq_false (by omega)
  go_enter Try.func22, Try.ntmps22
  go_wp2_with fail
  go_ret
  exact ⟨rfl, (((Keep.refl _).alloc _).alloc _).alloc _⟩
set_option maxHeartbeats 4000000 in
theorem law6_many {w : World} {s s2 s3 : Bool} {a a2 a3 : Option Addr} {len cap len2 cap2 len3 cap3 : Nat} {l l2 l3 : List Nat} (hr : Rd w a len cap l) (hr2 : Rd w a2 len2 cap2 l2) (hr3 : Rd w a3 len3 cap3 l3) (hn : ¬ (len ≤ 8 ∧ len2 ≤ 8 ∧ len3 ≤ 8)) : Calls Try.prog 6 #[.agg #[.bool s, .slice a len cap], .agg #[.bool s2, .slice a2 len2 cap2], .agg #[.bool s3, .slice a3 len3 cap3]] w (BPost true w) := by
  obtain ⟨X0, Y0, Z0, K0⟩ := three_boxes w s a len cap l s2 a2 len2 cap2 l2 s3 a3 len3 cap3 l3 hr hr2 hr3
  have AW := Lib.hid (fun w1 => awake_c w1)
  unfold bxW at *
  have FW : Hid (∀ w1, Calls Try.prog 22 #[.agg #[.bool s, .slice a len cap], .agg #[.bool s2, .slice a2 len2 cap2], .agg #[.bool s3, .slice a3 len3 cap3]] w1 (BPost false w1)) := Lib.hid (by
    intro w1
    by_cases h1 : len ≤ 8
    · by_cases h2 : len2 ≤ 8
      · exact few_3 hr.le_cap hr.cap_le hr2.le_cap hr2.cap_le hr3.le_cap hr3.cap_le h1 h2 (by omega)
      · exact few_2 hr.le_cap hr.cap_le hr2.le_cap hr2.cap_le hr3.le_cap hr3.cap_le h1 h2
    · exact few_1 hr.le_cap hr.cap_le hr2.le_cap hr2.cap_le hr3.le_cap hr3.cap_le h1)
  clear hr hr2 hr3
  go_enter Try.func6, Try.ntmps6
  go_wp2_with fail
  refine Calls.mono (AW.out _) ?_
  rintro e w1 ⟨rfl, k1⟩
  have X1 := X0.keep k1
  have Y1 := Y0.keep k1
  have Z1 := Z0.keep k1
  have K1 := K0.trans k1
  obtain ⟨⟨q0, q1, _, _, _⟩, _⟩ := id X1
  obtain ⟨⟨q2, q3, _, _, _⟩, _⟩ := id Y1
  obtain ⟨⟨q4, q5, _, _, _⟩, _⟩ := id Z1
  clear X0 Y0 Z0 K0 k1
  go_wp2_with fail
  refine Calls.mono (FW.out _) ?_
  rintro e w2 ⟨rfl, k2⟩
  have X2 := X1.keep k2
  have Y2 := Y1.keep k2
  have Z2 := Z1.keep k2
  have K2 := K1.trans k2
  clear X1 Y1 Z1 K1 k2
  have HK := Lib.hid K2
  clear X2 Y2 Z2 K2
  go_wp2
  go_ret
  exact ⟨rfl, HK.out⟩
set_option maxHeartbeats 4000000 in
theorem law6_few {w : World} {s s2 s3 : Bool} {a a2 a3 : Option Addr} {len cap len2 cap2 len3 cap3 : Nat} {l l2 l3 : List Nat} (hr : Rd w a len cap l) (hr2 : Rd w a2 len2 cap2 l2) (hr3 : Rd w a3 len3 cap3 l3) (h1 : len ≤ 8) (h2 : len2 ≤ 8) (h3 : len3 ≤ 8) : Calls Try.prog 6 #[.agg #[.bool s, .slice a len cap], .agg #[.bool s2, .slice a2 len2 cap2], .agg #[.bool s3, .slice a3 len3 cap3]] w (BPost true w) := by
  obtain ⟨X0, Y0, Z0, K0⟩ := three_boxes w s a len cap l s2 a2 len2 cap2 l2 s3 a3 len3 cap3 l3 hr hr2 hr3
  have AW := Lib.hid (fun w1 => awake_c w1)
  unfold bxW at *
  have FW : Hid (∀ w1, Calls Try.prog 22 #[.agg #[.bool s, .slice a len cap], .agg #[.bool s2, .slice a2 len2 cap2], .agg #[.bool s3, .slice a3 len3 cap3]] w1 (BPost true w1)) := Lib.hid (fun w1 => few_0 hr.le_cap hr.cap_le hr2.le_cap hr2.cap_le hr3.le_cap hr3.cap_le h1 h2 h3)
  have hlen : l.length ≤ 8 := by rw [hr.len_eq]; omega
  obtain ⟨zx, hz⟩ : ∃ z, iv s (nv l) = z := ⟨_, rfl⟩
  have HZ := Lib.hid hz
  have HL := Lib.hid hlen
  have hb : zx.natAbs < BB ^ 8 := by rw [← hz, iv_abs']; exact Nat.lt_of_lt_of_le (nv_lt hr.lim) (Nat.pow_le_pow_right BB_pos hlen)
  have hlen2 : l2.length ≤ 8 := by rw [hr2.len_eq]; omega
  obtain ⟨zy, hz2⟩ : ∃ z, iv s2 (nv l2) = z := ⟨_, rfl⟩
  have HZ2 := Lib.hid hz2
  have HL2 := Lib.hid hlen2
  have hb2 : zy.natAbs < BB ^ 8 := by rw [← hz2, iv_abs']; exact Nat.lt_of_lt_of_le (nv_lt hr2.lim) (Nat.pow_le_pow_right BB_pos hlen2)
  have hlen3 : l3.length ≤ 8 := by rw [hr3.len_eq]; omega
  obtain ⟨zz, hz3⟩ : ∃ z, iv s3 (nv l3) = z := ⟨_, rfl⟩
  have HZ3 := Lib.hid hz3
  have HL3 := Lib.hid hlen3
  have hb3 : zz.natAbs < BB ^ 8 := by rw [← hz3, iv_abs']; exact Nat.lt_of_lt_of_le (nv_lt hr3.lim) (Nat.pow_le_pow_right BB_pos hlen3)
  have HVL : Hid ((dig (zx * zy).natAbs).length ≤ 16) := Lib.hid (dig_len_of (by rw [Int.natAbs_mul]; exact mul_lt hb hb2))
  have HYZ : Hid ((zy * zz).natAbs < BB ^ 16) := Lib.hid (by rw [Int.natAbs_mul]; exact mul_lt hb2 hb3)
  have HXZ : Hid ((zx * zz).natAbs < BB ^ 16) := Lib.hid (by rw [Int.natAbs_mul]; exact mul_lt hb hb3)
  have HYA : Hid ((zy + zz).natAbs < BB ^ 17) := Lib.hid (by have h := add_lt2 hb2 hb3; rw [show (8 + 8 + 1 : Nat) = 17 from rfl] at h; omega)
  clear hr hr2 hr3 hz hz2 hz3 hlen hlen2 hlen3 hb hb2 hb3
  go_enter Try.func6, Try.ntmps6
  go_wp2_with fail
  refine Calls.mono (AW.out _) ?_
  rintro e w1 ⟨rfl, k1⟩
  have X1 := X0.keep k1
  have Y1 := Y0.keep k1
  have Z1 := Z0.keep k1
  have K1 := K0.trans k1
  obtain ⟨⟨q0, q1, _, _, _⟩, _⟩ := id X1
  obtain ⟨⟨q2, q3, _, _, _⟩, _⟩ := id Y1
  obtain ⟨⟨q4, q5, _, _, _⟩, _⟩ := id Z1
  clear X0 Y0 Z0 K0 k1
  go_wp2_with fail
  refine Calls.mono (FW.out _) ?_
  rintro e w2 ⟨rfl, k2⟩
  have X2 := X1.keep k2
  have Y2 := Y1.keep k2
  have Z2 := Z1.keep k2
  have K2 := K1.trans k2
  clear X1 Y1 Z1 K1 k2
  obtain ⟨⟨s0, s1, _, _, _⟩, _⟩ := id X2
  obtain ⟨⟨s2_, s3_, _, _, _⟩, _⟩ := id Y2
  obtain ⟨⟨s4, s5, _, _, _⟩, _⟩ := id Z2
  have MK := Lib.hid (mul_z (X2.iz HL.out) (Y2.iz HL2.out) (by omega) (by omega) (.inl (by omega)))
  rw [HZ.out, HZ2.out] at MK
  go_wp2_with fail
  refine Calls.mono MK.out ?_
  rintro e w3 ⟨v, rfl, hv, k3⟩
  obtain ⟨b, va, vn, vc, rfl, V3⟩ := hv.box
  have X3 := X2.keep k3
  have Y3 := Y2.keep k3
  have Z3 := Z2.keep k3
  have K3 := K2.trans k3
  have x_0 := Lib.hid (X3.keep (keep_new w3 (.cells #[.bool b, .slice va vn vc] 25)))
  have y_0 := Lib.hid (Y3.keep (keep_new w3 (.cells #[.bool b, .slice va vn vc] 25)))
  have z_0 := Lib.hid (Z3.keep (keep_new w3 (.cells #[.bool b, .slice va vn vc] 25)))
  have v_0 := Lib.hid (V3.keep (keep_drew _))
  have bw_0 := Lib.hid (K3.trans (keep_new w3 (.cells #[.bool b, .slice va vn vc] 25)))
  obtain ⟨p0, p1, _, _, _⟩ := x_0.out.box
  obtain ⟨p2, p3, _, _, _⟩ := y_0.out.box
  obtain ⟨p4, p5, _, _, _⟩ := z_0.out.box
  obtain ⟨p6, p7, _, _, _⟩ := v_0.out.bx.box
  obtain ⟨⟨r0, r1, _, _, _⟩, _⟩ := X3
  obtain ⟨⟨r2, r3, _, _, _⟩, _⟩ := Y3
  obtain ⟨⟨r4, r5, _, _, _⟩, _⟩ := Z3
  clear X2 Y2 Z2 K2 k3 hv V3 K3 MK
  go_wp2
  go_region_held3 (fun w' => w'.cell? ⟨w.heap.size, 0, none⟩ = some (.bool s) ∧ w'.cell? ⟨w.heap.size, 1, none⟩ = some (.slice a len cap) ∧ w'.cell? ⟨(w.heap.size + 1), 0, none⟩ = some (.bool s2) ∧ w'.cell? ⟨(w.heap.size + 1), 1, none⟩ = some (.slice a2 len2 cap2) ∧ w'.cell? ⟨(w.heap.size + 1 + 1), 0, none⟩ = some (.bool s3) ∧ w'.cell? ⟨(w.heap.size + 1 + 1), 1, none⟩ = some (.slice a3 len3 cap3) ∧ w'.cell? ⟨w3.heap.size, 0, none⟩ = some (.bool b) ∧ w'.cell? ⟨w3.heap.size, 1, none⟩ = some (.slice va vn vc)) (first | exact ⟨x_8_0, x_8_1, y_8_0, y_8_1, z_8_0, z_8_1, v_8_0, v_8_1⟩ | exact ⟨x_7_0, x_7_1, y_7_0, y_7_1, z_7_0, z_7_1, v_7_0, v_7_1⟩ | exact ⟨x_6_0, x_6_1, y_6_0, y_6_1, z_6_0, z_6_1, v_6_0, v_6_1⟩ | exact ⟨x_5_0, x_5_1, y_5_0, y_5_1, z_5_0, z_5_1, v_5_0, v_5_1⟩ | exact ⟨x_4_0, x_4_1, y_4_0, y_4_1, z_4_0, z_4_1, v_4_0, v_4_1⟩ | exact ⟨x_3_0, x_3_1, y_3_0, y_3_1, z_3_0, z_3_1, v_3_0, v_3_1⟩ | exact ⟨x_2_0, x_2_1, y_2_0, y_2_1, z_2_0, z_2_1, v_2_0, v_2_1⟩ | exact ⟨x_1_0, x_1_1, y_1_0, y_1_1, z_1_0, z_1_1, v_1_0, v_1_1⟩ | go_keep)
    (first
      | (go_at_call 12; ((with_reducible refine Calls.mono (isame_t U_57.out U_7.out rfl) ?_); rintro e w_8 ⟨rfl, k_8⟩; have x_8 := Lib.hid (x_7.out.keep k_8); obtain ⟨x_8_0, x_8_1, _, _, _⟩ := x_8.out.box; have y_8 := Lib.hid (y_7.out.keep k_8); obtain ⟨y_8_0, y_8_1, _, _, _⟩ := y_8.out.box; have z_8 := Lib.hid (z_7.out.keep k_8); obtain ⟨z_8_0, z_8_1, _, _, _⟩ := z_8.out.box; have v_8 := Lib.hid (v_7.out.keep k_8); obtain ⟨v_8_0, v_8_1, _, _, _⟩ := v_8.out.bx.box; have bw_8 := Lib.hid (bw_7.out.trans k_8); clear k_8))
      | (go_at_call_of 28 (Value.agg #[Value.bool s, Value.slice a len cap]); ((with_reducible refine Calls.mono ((by have H := mul_z (x_6.out.iz HL.out) (U_6.out.iz (k := 16) HYZ.out) (by omega) (by omega) (.inl (by omega)); rw [HZ.out, ← Int.mul_assoc] at H; exact H)) ?_); rintro e w_7 ⟨u7, rfl, hu, k_7⟩; have x_7 := Lib.hid (x_6.out.keep k_7); obtain ⟨x_7_0, x_7_1, _, _, _⟩ := x_7.out.box; have y_7 := Lib.hid (y_6.out.keep k_7); obtain ⟨y_7_0, y_7_1, _, _, _⟩ := y_7.out.box; have z_7 := Lib.hid (z_6.out.keep k_7); obtain ⟨z_7_0, z_7_1, _, _, _⟩ := z_7.out.box; have v_7 := Lib.hid (v_6.out.keep k_7); obtain ⟨v_7_0, v_7_1, _, _, _⟩ := v_7.out.bx.box; have bw_7 := Lib.hid (bw_6.out.trans k_7); have U_7 := Lib.hid hu; have U_57 := Lib.hid (U_56.out.keep k_7); clear hu; clear k_7))
      | (go_at_call_of 28 (Value.agg #[Value.bool s2, Value.slice a2 len2 cap2]); ((with_reducible refine Calls.mono ((by have H := mul_z (y_5.out.iz HL2.out) (z_5.out.iz HL3.out) (by omega) (by omega) (.inl (by omega)); rw [HZ2.out, HZ3.out] at H; exact H)) ?_); rintro e w_6 ⟨u6, rfl, hu, k_6⟩; have x_6 := Lib.hid (x_5.out.keep k_6); obtain ⟨x_6_0, x_6_1, _, _, _⟩ := x_6.out.box; have y_6 := Lib.hid (y_5.out.keep k_6); obtain ⟨y_6_0, y_6_1, _, _, _⟩ := y_6.out.box; have z_6 := Lib.hid (z_5.out.keep k_6); obtain ⟨z_6_0, z_6_1, _, _, _⟩ := z_6.out.box; have v_6 := Lib.hid (v_5.out.keep k_6); obtain ⟨v_6_0, v_6_1, _, _, _⟩ := v_6.out.bx.box; have bw_6 := Lib.hid (bw_5.out.trans k_6); have U_6 := Lib.hid hu; have U_56 := Lib.hid (U_5.out.keep k_6); clear hu; clear k_6))
      | (go_at_call_of 28 (Value.agg #[Value.bool b, Value.slice va vn vc]); ((with_reducible refine Calls.mono ((by have H := mul_z (v_4.out.iz HVL.out) (z_4.out.iz HL3.out) (by omega) (by omega) (.inl (by omega)); rw [HZ3.out] at H; exact H)) ?_); rintro e w_5 ⟨u5, rfl, hu, k_5⟩; have x_5 := Lib.hid (x_4.out.keep k_5); obtain ⟨x_5_0, x_5_1, _, _, _⟩ := x_5.out.box; have y_5 := Lib.hid (y_4.out.keep k_5); obtain ⟨y_5_0, y_5_1, _, _, _⟩ := y_5.out.box; have z_5 := Lib.hid (z_4.out.keep k_5); obtain ⟨z_5_0, z_5_1, _, _, _⟩ := z_5.out.box; have v_5 := Lib.hid (v_4.out.keep k_5); obtain ⟨v_5_0, v_5_1, _, _, _⟩ := v_5.out.bx.box; have bw_5 := Lib.hid (bw_4.out.trans k_5); have U_5 := Lib.hid hu; clear hu; clear k_5))
      | (go_at_call_of 12 (Value.agg #[Value.bool b, Value.slice va vn vc]); ((with_reducible refine Calls.mono (isame_t v_3.out.ci U_3.out rfl) ?_); rintro e w_4 ⟨rfl, k_4⟩; have x_4 := Lib.hid (x_3.out.keep k_4); obtain ⟨x_4_0, x_4_1, _, _, _⟩ := x_4.out.box; have y_4 := Lib.hid (y_3.out.keep k_4); obtain ⟨y_4_0, y_4_1, _, _, _⟩ := y_4.out.box; have z_4 := Lib.hid (z_3.out.keep k_4); obtain ⟨z_4_0, z_4_1, _, _, _⟩ := z_4.out.box; have v_4 := Lib.hid (v_3.out.keep k_4); obtain ⟨v_4_0, v_4_1, _, _, _⟩ := v_4.out.bx.box; have bw_4 := Lib.hid (bw_3.out.trans k_4); clear k_4))
      | (go_at_call_of 28 (Value.agg #[Value.bool s2, Value.slice a2 len2 cap2]); ((with_reducible refine Calls.mono ((by have H := mul_z (y_2.out.iz HL2.out) (x_2.out.iz HL.out) (by omega) (by omega) (.inl (by omega)); rw [HZ.out, HZ2.out, Int.mul_comm] at H; exact H)) ?_); rintro e w_3 ⟨u3, rfl, hu, k_3⟩; have x_3 := Lib.hid (x_2.out.keep k_3); obtain ⟨x_3_0, x_3_1, _, _, _⟩ := x_3.out.box; have y_3 := Lib.hid (y_2.out.keep k_3); obtain ⟨y_3_0, y_3_1, _, _, _⟩ := y_3.out.box; have z_3 := Lib.hid (z_2.out.keep k_3); obtain ⟨z_3_0, z_3_1, _, _, _⟩ := z_3.out.box; have v_3 := Lib.hid (v_2.out.keep k_3); obtain ⟨v_3_0, v_3_1, _, _, _⟩ := v_3.out.bx.box; have bw_3 := Lib.hid (bw_2.out.trans k_3); have U_3 := Lib.hid hu; clear hu; clear k_3))
      | (go_at_call_of 12 (Value.agg #[Value.bool b, Value.slice va vn vc]); ((with_reducible refine Calls.mono (isame_t v_1.out.ci U_1.out rfl) ?_); rintro e w_2 ⟨rfl, k_2⟩; have x_2 := Lib.hid (x_1.out.keep k_2); obtain ⟨x_2_0, x_2_1, _, _, _⟩ := x_2.out.box; have y_2 := Lib.hid (y_1.out.keep k_2); obtain ⟨y_2_0, y_2_1, _, _, _⟩ := y_2.out.box; have z_2 := Lib.hid (z_1.out.keep k_2); obtain ⟨z_2_0, z_2_1, _, _, _⟩ := z_2.out.box; have v_2 := Lib.hid (v_1.out.keep k_2); obtain ⟨v_2_0, v_2_1, _, _, _⟩ := v_2.out.bx.box; have bw_2 := Lib.hid (bw_1.out.trans k_2); clear k_2))
      | (go_at_call 29; ((with_reducible refine Calls.mono ((by have H := rmul_z (x_0.out.iz HL.out) (y_0.out.iz HL2.out) (by omega) (by omega); rw [HZ.out, HZ2.out] at H; exact H)) ?_); rintro e w_1 ⟨u1, rfl, hu, k_1⟩; have x_1 := Lib.hid (x_0.out.keep k_1); obtain ⟨x_1_0, x_1_1, _, _, _⟩ := x_1.out.box; have y_1 := Lib.hid (y_0.out.keep k_1); obtain ⟨y_1_0, y_1_1, _, _, _⟩ := y_1.out.box; have z_1 := Lib.hid (z_0.out.keep k_1); obtain ⟨z_1_0, z_1_1, _, _, _⟩ := z_1.out.box; have v_1 := Lib.hid (v_0.out.keep k_1); obtain ⟨v_1_0, v_1_1, _, _, _⟩ := v_1.out.bx.box; have bw_1 := Lib.hid (bw_0.out.trans k_1); have U_1 := Lib.hid hu; clear hu; clear k_1)))
  all_goals
    have bx_0 := Lib.hid (x_8.out.keep (keep_drew _))
    have by_0 := Lib.hid (y_8.out.keep (keep_drew _))
    have bz_0 := Lib.hid (z_8.out.keep (keep_drew _))
    have vv_0 := Lib.hid (v_8.out.keep (keep_drew _))
    have bw_0 := Lib.hid (bw_8.out.trans (keep_drew _))
    obtain ⟨g0, g1, _, _, _⟩ := bx_0.out.box
    obtain ⟨g2, g3, _, _, _⟩ := by_0.out.box
    obtain ⟨g4, g5, _, _, _⟩ := bz_0.out.box
    obtain ⟨g6, g7, _, _, _⟩ := vv_0.out.bx.box
    go_wp2
    go_region_held3 (fun w' => w'.cell? ⟨w.heap.size, 0, none⟩ = some (.bool s) ∧ w'.cell? ⟨w.heap.size, 1, none⟩ = some (.slice a len cap) ∧ w'.cell? ⟨(w.heap.size + 1), 0, none⟩ = some (.bool s2) ∧ w'.cell? ⟨(w.heap.size + 1), 1, none⟩ = some (.slice a2 len2 cap2) ∧ w'.cell? ⟨(w.heap.size + 1 + 1), 0, none⟩ = some (.bool s3) ∧ w'.cell? ⟨(w.heap.size + 1 + 1), 1, none⟩ = some (.slice a3 len3 cap3) ∧ w'.cell? ⟨w3.heap.size, 0, none⟩ = some (.bool b) ∧ w'.cell? ⟨w3.heap.size, 1, none⟩ = some (.slice va vn vc)) (first | exact ⟨bx_5_0, bx_5_1, by_5_0, by_5_1, bz_5_0, bz_5_1, vv_5_0, vv_5_1⟩ | exact ⟨bx_4_0, bx_4_1, by_4_0, by_4_1, bz_4_0, bz_4_1, vv_4_0, vv_4_1⟩ | exact ⟨bx_3_0, bx_3_1, by_3_0, by_3_1, bz_3_0, bz_3_1, vv_3_0, vv_3_1⟩ | exact ⟨bx_2_0, bx_2_1, by_2_0, by_2_1, bz_2_0, bz_2_1, vv_2_0, vv_2_1⟩ | exact ⟨bx_1_0, bx_1_1, by_1_0, by_1_1, bz_1_0, bz_1_1, vv_1_0, vv_1_1⟩ | go_keep)
      (first
        | (go_at_call 12; ((with_reducible refine Calls.mono (isame_t T_24.out T_4.out rfl) ?_); rintro e w_5 ⟨rfl, k_5⟩; have bx_5 := Lib.hid (bx_4.out.keep k_5); obtain ⟨bx_5_0, bx_5_1, _, _, _⟩ := bx_5.out.box; have by_5 := Lib.hid (by_4.out.keep k_5); obtain ⟨by_5_0, by_5_1, _, _, _⟩ := by_5.out.box; have bz_5 := Lib.hid (bz_4.out.keep k_5); obtain ⟨bz_5_0, bz_5_1, _, _, _⟩ := bz_5.out.box; have vv_5 := Lib.hid (vv_4.out.keep k_5); obtain ⟨vv_5_0, vv_5_1, _, _, _⟩ := vv_5.out.bx.box; have bw_5 := Lib.hid (bw_4.out.trans k_5); clear k_5))
        | (go_at_call_of 23 (Value.agg #[Value.bool b, Value.slice va vn vc]); ((with_reducible refine Calls.mono ((by have H := add_z (vv_3.out.iz HVL.out) (T_3.out.iz (k := 16) HXZ.out) (by omega) (by omega); rw [← Int.mul_add] at H; exact H)) ?_); rintro e w_4 ⟨t4, rfl, hu, k_4⟩; have bx_4 := Lib.hid (bx_3.out.keep k_4); obtain ⟨bx_4_0, bx_4_1, _, _, _⟩ := bx_4.out.box; have by_4 := Lib.hid (by_3.out.keep k_4); obtain ⟨by_4_0, by_4_1, _, _, _⟩ := by_4.out.box; have bz_4 := Lib.hid (bz_3.out.keep k_4); obtain ⟨bz_4_0, bz_4_1, _, _, _⟩ := bz_4.out.box; have vv_4 := Lib.hid (vv_3.out.keep k_4); obtain ⟨vv_4_0, vv_4_1, _, _, _⟩ := vv_4.out.bx.box; have bw_4 := Lib.hid (bw_3.out.trans k_4); have T_4 := Lib.hid hu; have T_24 := Lib.hid (T_23.out.keep k_4); clear hu; clear k_4))
        | (go_at_call_of 28 (Value.agg #[Value.bool s, Value.slice a len cap]); ((with_reducible refine Calls.mono ((by have H := mul_z (bx_2.out.iz HL.out) (bz_2.out.iz HL3.out) (by omega) (by omega) (.inl (by omega)); rw [HZ.out, HZ3.out] at H; exact H)) ?_); rintro e w_3 ⟨t3, rfl, hu, k_3⟩; have bx_3 := Lib.hid (bx_2.out.keep k_3); obtain ⟨bx_3_0, bx_3_1, _, _, _⟩ := bx_3.out.box; have by_3 := Lib.hid (by_2.out.keep k_3); obtain ⟨by_3_0, by_3_1, _, _, _⟩ := by_3.out.box; have bz_3 := Lib.hid (bz_2.out.keep k_3); obtain ⟨bz_3_0, bz_3_1, _, _, _⟩ := bz_3.out.box; have vv_3 := Lib.hid (vv_2.out.keep k_3); obtain ⟨vv_3_0, vv_3_1, _, _, _⟩ := vv_3.out.bx.box; have bw_3 := Lib.hid (bw_2.out.trans k_3); have T_3 := Lib.hid hu; have T_23 := Lib.hid (T_2.out.keep k_3); clear hu; clear k_3))
        | (go_at_call_of 28 (Value.agg #[Value.bool s, Value.slice a len cap]); ((with_reducible refine Calls.mono ((by have H := mul_z (bx_1.out.iz HL.out) (T_1.out.iz (k := 17) HYA.out) (by omega) (by omega) (.inl (by omega)); rw [HZ.out] at H; exact H)) ?_); rintro e w_2 ⟨t2, rfl, hu, k_2⟩; have bx_2 := Lib.hid (bx_1.out.keep k_2); obtain ⟨bx_2_0, bx_2_1, _, _, _⟩ := bx_2.out.box; have by_2 := Lib.hid (by_1.out.keep k_2); obtain ⟨by_2_0, by_2_1, _, _, _⟩ := by_2.out.box; have bz_2 := Lib.hid (bz_1.out.keep k_2); obtain ⟨bz_2_0, bz_2_1, _, _, _⟩ := bz_2.out.box; have vv_2 := Lib.hid (vv_1.out.keep k_2); obtain ⟨vv_2_0, vv_2_1, _, _, _⟩ := vv_2.out.bx.box; have bw_2 := Lib.hid (bw_1.out.trans k_2); have T_2 := Lib.hid hu; clear hu; clear k_2))
        | (go_at_call_of 23 (Value.agg #[Value.bool s2, Value.slice a2 len2 cap2]); ((with_reducible refine Calls.mono ((by have H := add_z (by_0.out.iz HL2.out) (bz_0.out.iz HL3.out) (by omega) (by omega); rw [HZ2.out, HZ3.out] at H; exact H)) ?_); rintro e w_1 ⟨t1, rfl, hu, k_1⟩; have bx_1 := Lib.hid (bx_0.out.keep k_1); obtain ⟨bx_1_0, bx_1_1, _, _, _⟩ := bx_1.out.box; have by_1 := Lib.hid (by_0.out.keep k_1); obtain ⟨by_1_0, by_1_1, _, _, _⟩ := by_1.out.box; have bz_1 := Lib.hid (bz_0.out.keep k_1); obtain ⟨bz_1_0, bz_1_1, _, _, _⟩ := bz_1.out.box; have vv_1 := Lib.hid (vv_0.out.keep k_1); obtain ⟨vv_1_0, vv_1_1, _, _, _⟩ := vv_1.out.bx.box; have bw_1 := Lib.hid (bw_0.out.trans k_1); have T_1 := Lib.hid hu; clear hu; clear k_1)))
    all_goals
      go_wp2
      go_ret
      exact ⟨rfl, bw_5.out⟩
theorem law6_c {w : World} {s s2 s3 : Bool} {a a2 a3 : Option Addr} {len cap len2 cap2 len3 cap3 : Nat} {l l2 l3 : List Nat} (hr : Rd w a len cap l) (hr2 : Rd w a2 len2 cap2 l2) (hr3 : Rd w a3 len3 cap3 l3) : Calls Try.prog 6 #[.agg #[.bool s, .slice a len cap], .agg #[.bool s2, .slice a2 len2 cap2], .agg #[.bool s3, .slice a3 len3 cap3]] w (BPost true w) := by
  by_cases h : len ≤ 8 ∧ len2 ≤ 8 ∧ len3 ≤ 8
  · exact law6_few hr hr2 hr3 h.1 h.2.1 h.2.2
  · exact law6_many hr hr2 hr3 h
end Go.Proofs.Ytjkfnnoakjdgmaa
