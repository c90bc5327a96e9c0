/- Walks of layer 2: Sub, the law of Add. -/
import Derived.Test.YtjkfnnoakjdgmaaM
namespace Go.Proofs.Ytjkfnnoakjdgmaa
open Go.RowKit
set_option linter.unusedVariables false
set_option maxHeartbeats 1000000 in
theorem isub_false {w : World} {s : Bool} {a a2 : Option Addr} {len cap len2 cap2 n m k k2 : Nat} {z : Int} (hm : Nm w (.slice a len cap) n k) (hm2 : Nm w (.slice a2 len2 cap2) m k2) (hk : k ≤ 500000) (hk2 : k2 ≤ 500000) (hz : iv s n + iv true m = z) :
    Calls Try.prog 25 #[.agg #[.bool s, .slice a len cap], .agg #[.bool false, .slice a2 len2 cap2]] w (IPostZ z w) := by
  obtain ⟨B0, B1, B2, K⟩ := op_boxes w s a len cap false a2 len2 cap2
  have C1 := Lib.hid (iadd_c (s := s) (s' := true) ⟨_, rfl, hm.keep K⟩ ⟨_, rfl, hm2.keep K⟩ hk hk2)
  rw [hz] at C1
  clear hm hm2 hz
  go_enter Try.func25, Try.ntmps25
  go_wp2_with fail
  refine Calls.mono C1.out ?_
  rintro e w1 ⟨u, rfl, hu, k1⟩
  have D2 := B2.keep k1
  have K1 := K.trans k1
  obtain ⟨a0, d0, c0, l0, rfl, hr, hci⟩ := hu.form
  obtain ⟨sb, hsb⟩ : ∃ b, decide (z < 0) = b := ⟨_, rfl⟩
  rw [hsb] at hci ⊢
  obtain ⟨hs1, hs2, r0, r1⟩ := D2.store K1 (by omega) (.bool sb) (.slice a0 d0 c0)
  have FIN := Lib.hid (show IPostZ z w (.returned (.agg #[.bool sb, .slice a0 d0 c0])) _ from ⟨_, rfl, hci _ (hs2 _ _ _ _ hr), hs1⟩)
  obtain ⟨q0, q1, q2, q3, _⟩ := D2
  clear hs1 hs2 hr hci hu hsb K1 B0 B1 B2 K k1
  go_wp2
  refine bodyPost_ret (v := .agg #[.bool sb, .slice a0 d0 c0]) (by simp [results, Try.results25, go_sem, r0, r1]) rfl ?_
  exact FIN.out
set_option maxHeartbeats 1000000 in
theorem isub_true {w : World} {s : Bool} {a a2 : Option Addr} {len cap len2 cap2 n m k k2 : Nat} {z : Int} (hm : Nm w (.slice a len cap) n k) (hm2 : Nm w (.slice a2 len2 cap2) m k2) (hk : k ≤ 500000) (hk2 : k2 ≤ 500000) (hz : iv s n + iv false m = z) :
    Calls Try.prog 25 #[.agg #[.bool s, .slice a len cap], .agg #[.bool true, .slice a2 len2 cap2]] w (IPostZ z w) := by
  obtain ⟨B0, B1, B2, K⟩ := op_boxes w s a len cap true a2 len2 cap2
  have C1 := Lib.hid (iadd_c (s := s) (s' := false) ⟨_, rfl, hm.keep K⟩ ⟨_, rfl, hm2.keep K⟩ hk hk2)
  rw [hz] at C1
  clear hm hm2 hz
  go_enter Try.func25, Try.ntmps25
  go_wp2_with fail
  refine Calls.mono C1.out ?_
  rintro e w1 ⟨u, rfl, hu, k1⟩
  have D2 := B2.keep k1
  have K1 := K.trans k1
  obtain ⟨a0, d0, c0, l0, rfl, hr, hci⟩ := hu.form
  obtain ⟨sb, hsb⟩ : ∃ b, decide (z < 0) = b := ⟨_, rfl⟩
  rw [hsb] at hci ⊢
  obtain ⟨hs1, hs2, r0, r1⟩ := D2.store K1 (by omega) (.bool sb) (.slice a0 d0 c0)
  have FIN := Lib.hid (show IPostZ z w (.returned (.agg #[.bool sb, .slice a0 d0 c0])) _ from ⟨_, rfl, hci _ (hs2 _ _ _ _ hr), hs1⟩)
  obtain ⟨q0, q1, q2, q3, _⟩ := D2
  clear hs1 hs2 hr hci hu hsb K1 B0 B1 B2 K k1
  go_wp2
  refine bodyPost_ret (v := .agg #[.bool sb, .slice a0 d0 c0]) (by simp [results, Try.results25, go_sem, r0, r1]) rfl ?_
  exact FIN.out
theorem sub_z {w : World} {v u : Value} {z y : Int} {k k' : Nat} (h : Iz w v z k) (h' : Iz w u y k') (hk : k ≤ 500000) (hk' : k' ≤ 500000) : Calls Try.prog 25 #[v, u] w (IPostZ (z - y) w) := by
  obtain ⟨s, n, rfl, x, rfl, hm⟩ := h
  obtain ⟨a, len, cap, l, rfl, _, _, _⟩ := hm.form
  obtain ⟨s', m, rfl, y, rfl, hm'⟩ := h'
  obtain ⟨a', len', cap', l', rfl, _, _, _⟩ := hm'.form
  cases s'
  · exact isub_false hm hm' hk hk' (by cases s <;> simp [iv] <;> omega)
  · exact isub_true hm hm' hk hk' (by cases s <;> simp [iv] <;> omega)
set_option maxHeartbeats 4000000 in
theorem law5_many {w : World} {s s2 s3 : Bool} {a a2 a3 : Option Addr} {len cap len2 cap2 len3 cap3 : Nat} {l l2 l3 : List Nat} (hr : Rd w a len cap l) (hr2 : Rd w a2 len2 cap2 l2) (hr3 : Rd w a3 len3 cap3 l3) (hn : ¬ (len ≤ 8 ∧ len2 ≤ 8 ∧ len3 ≤ 8)) : Calls Try.prog 5 #[.agg #[.bool s, .slice a len cap], .agg #[.bool s2, .slice a2 len2 cap2], .agg #[.bool s3, .slice a3 len3 cap3]] w (BPost true w) := by
  obtain ⟨X0, Y0, Z0, K0⟩ := three_boxes w s a len cap l s2 a2 len2 cap2 l2 s3 a3 len3 cap3 l3 hr hr2 hr3
  have AW := Lib.hid (fun w1 => awake_c w1)
  unfold bxW at *
  have FW : Hid (∀ w1, Calls Try.prog 22 #[.agg #[.bool s, .slice a len cap], .agg #[.bool s2, .slice a2 len2 cap2], .agg #[.bool s3, .slice a3 len3 cap3]] w1 (BPost false w1)) := Lib.hid (by
    intro w1
    by_cases h1 : len ≤ 8
    · by_cases h2 : len2 ≤ 8
      · exact few_3 hr.le_cap hr.cap_le hr2.le_cap hr2.cap_le hr3.le_cap hr3.cap_le h1 h2 (by omega)
      · exact few_2 hr.le_cap hr.cap_le hr2.le_cap hr2.cap_le hr3.le_cap hr3.cap_le h1 h2
    · exact few_1 hr.le_cap hr.cap_le hr2.le_cap hr2.cap_le hr3.le_cap hr3.cap_le h1)
  clear hr hr2 hr3
  go_enter Try.func5, Try.ntmps5
  go_wp2_with fail
  refine Calls.mono (AW.out _) ?_
  rintro e w1 ⟨rfl, k1⟩
  have X1 := X0.keep k1
  have Y1 := Y0.keep k1
  have Z1 := Z0.keep k1
  have K1 := K0.trans k1
  obtain ⟨⟨q0, q1, _, _, _⟩, _⟩ := id X1
  obtain ⟨⟨q2, q3, _, _, _⟩, _⟩ := id Y1
  obtain ⟨⟨q4, q5, _, _, _⟩, _⟩ := id Z1
  clear X0 Y0 Z0 K0 k1
  go_wp2_with fail
  refine Calls.mono (FW.out _) ?_
  rintro e w2 ⟨rfl, k2⟩
  have X2 := X1.keep k2
  have Y2 := Y1.keep k2
  have Z2 := Z1.keep k2
  have K2 := K1.trans k2
  clear X1 Y1 Z1 K1 k2
  have HK := Lib.hid K2
  clear X2 Y2 Z2 K2
  go_wp2
  go_ret
  exact ⟨rfl, HK.out⟩
set_option maxHeartbeats 4000000 in
theorem law5_few {w : World} {s s2 s3 : Bool} {a a2 a3 : Option Addr} {len cap len2 cap2 len3 cap3 : Nat} {l l2 l3 : List Nat} (hr : Rd w a len cap l) (hr2 : Rd w a2 len2 cap2 l2) (hr3 : Rd w a3 len3 cap3 l3) (h1 : len ≤ 8) (h2 : len2 ≤ 8) (h3 : len3 ≤ 8) : Calls Try.prog 5 #[.agg #[.bool s, .slice a len cap], .agg #[.bool s2, .slice a2 len2 cap2], .agg #[.bool s3, .slice a3 len3 cap3]] w (BPost true w) := by
  obtain ⟨X0, Y0, Z0, K0⟩ := three_boxes w s a len cap l s2 a2 len2 cap2 l2 s3 a3 len3 cap3 l3 hr hr2 hr3
  have AW := Lib.hid (fun w1 => awake_c w1)
  unfold bxW at *
  have FW : Hid (∀ w1, Calls Try.prog 22 #[.agg #[.bool s, .slice a len cap], .agg #[.bool s2, .slice a2 len2 cap2], .agg #[.bool s3, .slice a3 len3 cap3]] w1 (BPost true w1)) := Lib.hid (fun w1 => few_0 hr.le_cap hr.cap_le hr2.le_cap hr2.cap_le hr3.le_cap hr3.cap_le h1 h2 h3)
  have hlen : l.length ≤ 8 := by rw [hr.len_eq]; omega
  obtain ⟨zx, hz⟩ : ∃ z, iv s (nv l) = z := ⟨_, rfl⟩
  have HZ := Lib.hid hz
  have HL := Lib.hid hlen
  have hb : zx.natAbs < BB ^ 8 := by rw [← hz, iv_abs']; exact Nat.lt_of_lt_of_le (nv_lt hr.lim) (Nat.pow_le_pow_right BB_pos hlen)
  have hlen2 : l2.length ≤ 8 := by rw [hr2.len_eq]; omega
  obtain ⟨zy, hz2⟩ : ∃ z, iv s2 (nv l2) = z := ⟨_, rfl⟩
  have HZ2 := Lib.hid hz2
  have HL2 := Lib.hid hlen2
  have hb2 : zy.natAbs < BB ^ 8 := by rw [← hz2, iv_abs']; exact Nat.lt_of_lt_of_le (nv_lt hr2.lim) (Nat.pow_le_pow_right BB_pos hlen2)
  have hlen3 : l3.length ≤ 8 := by rw [hr3.len_eq]; omega
  obtain ⟨zz, hz3⟩ : ∃ z, iv s3 (nv l3) = z := ⟨_, rfl⟩
  have HZ3 := Lib.hid hz3
  have HL3 := Lib.hid hlen3
  have hb3 : zz.natAbs < BB ^ 8 := by rw [← hz3, iv_abs']; exact Nat.lt_of_lt_of_le (nv_lt hr3.lim) (Nat.pow_le_pow_right BB_pos hlen3)
  have HVL : Hid ((dig (zx + zy).natAbs).length ≤ 17) := Lib.hid (dig_len_of (by have h := add_lt2 hb hb2; rw [show (8 + 8 + 1 : Nat) = 17 from rfl] at h; omega))
  have HYA : Hid ((zy + zz).natAbs < BB ^ 17) := Lib.hid (by have h := add_lt2 hb2 hb3; rw [show (8 + 8 + 1 : Nat) = 17 from rfl] at h; omega)
  have HNX : Hid ((-zx).natAbs < BB ^ 8) := Lib.hid (by rw [Int.natAbs_neg]; exact hb)
  have HS0 : Hid (sgn 0 = 0) := Lib.hid rfl
  clear hr hr2 hr3 hz hz2 hz3 hlen hlen2 hlen3 hb hb2 hb3
  go_enter Try.func5, Try.ntmps5
  go_wp2_with fail
  refine Calls.mono (AW.out _) ?_
  rintro e w1 ⟨rfl, k1⟩
  have X1 := X0.keep k1
  have Y1 := Y0.keep k1
  have Z1 := Z0.keep k1
  have K1 := K0.trans k1
  obtain ⟨⟨q0, q1, _, _, _⟩, _⟩ := id X1
  obtain ⟨⟨q2, q3, _, _, _⟩, _⟩ := id Y1
  obtain ⟨⟨q4, q5, _, _, _⟩, _⟩ := id Z1
  clear X0 Y0 Z0 K0 k1
  go_wp2_with fail
  refine Calls.mono (FW.out _) ?_
  rintro e w2 ⟨rfl, k2⟩
  have X2 := X1.keep k2
  have Y2 := Y1.keep k2
  have Z2 := Z1.keep k2
  have K2 := K1.trans k2
  clear X1 Y1 Z1 K1 k2
  obtain ⟨⟨s0, s1, _, _, _⟩, _⟩ := id X2
  obtain ⟨⟨s2_, s3_, _, _, _⟩, _⟩ := id Y2
  obtain ⟨⟨s4, s5, _, _, _⟩, _⟩ := id Z2
  have MK := Lib.hid (add_z (X2.iz HL.out) (Y2.iz HL2.out) (by omega) (by omega))
  rw [HZ.out, HZ2.out] at MK
  go_wp2_with fail
  refine Calls.mono MK.out ?_
  rintro e w3 ⟨v, rfl, hv, k3⟩
  obtain ⟨b, va, vn, vc, rfl, V3⟩ := hv.box
  have X3 := X2.keep k3
  have Y3 := Y2.keep k3
  have Z3 := Z2.keep k3
  have K3 := K2.trans k3
  have x_0 := Lib.hid (X3.keep (keep_new w3 (.cells #[.bool b, .slice va vn vc] 25)))
  have y_0 := Lib.hid (Y3.keep (keep_new w3 (.cells #[.bool b, .slice va vn vc] 25)))
  have z_0 := Lib.hid (Z3.keep (keep_new w3 (.cells #[.bool b, .slice va vn vc] 25)))
  have v_0 := Lib.hid (V3.keep (keep_drew _))
  have bw_0 := Lib.hid (K3.trans (keep_new w3 (.cells #[.bool b, .slice va vn vc] 25)))
  obtain ⟨p0, p1, _, _, _⟩ := x_0.out.box
  obtain ⟨p2, p3, _, _, _⟩ := y_0.out.box
  obtain ⟨p4, p5, _, _, _⟩ := z_0.out.box
  obtain ⟨p6, p7, _, _, _⟩ := v_0.out.bx.box
  obtain ⟨⟨r0, r1, _, _, _⟩, _⟩ := X3
  obtain ⟨⟨r2, r3, _, _, _⟩, _⟩ := Y3
  obtain ⟨⟨r4, r5, _, _, _⟩, _⟩ := Z3
  clear X2 Y2 Z2 K2 k3 hv V3 K3 MK
  go_wp2
  go_region_held3 (fun w' => w'.cell? ⟨w.heap.size, 0, none⟩ = some (.bool s) ∧ w'.cell? ⟨w.heap.size, 1, none⟩ = some (.slice a len cap) ∧ w'.cell? ⟨(w.heap.size + 1), 0, none⟩ = some (.bool s2) ∧ w'.cell? ⟨(w.heap.size + 1), 1, none⟩ = some (.slice a2 len2 cap2) ∧ w'.cell? ⟨(w.heap.size + 1 + 1), 0, none⟩ = some (.bool s3) ∧ w'.cell? ⟨(w.heap.size + 1 + 1), 1, none⟩ = some (.slice a3 len3 cap3) ∧ w'.cell? ⟨w3.heap.size, 0, none⟩ = some (.bool b) ∧ w'.cell? ⟨w3.heap.size, 1, none⟩ = some (.slice va vn vc)) (first | exact ⟨x_7_0, x_7_1, y_7_0, y_7_1, z_7_0, z_7_1, v_7_0, v_7_1⟩ | exact ⟨x_6_0, x_6_1, y_6_0, y_6_1, z_6_0, z_6_1, v_6_0, v_6_1⟩ | exact ⟨x_5_0, x_5_1, y_5_0, y_5_1, z_5_0, z_5_1, v_5_0, v_5_1⟩ | exact ⟨x_4_0, x_4_1, y_4_0, y_4_1, z_4_0, z_4_1, v_4_0, v_4_1⟩ | exact ⟨x_3_0, x_3_1, y_3_0, y_3_1, z_3_0, z_3_1, v_3_0, v_3_1⟩ | exact ⟨x_2_0, x_2_1, y_2_0, y_2_1, z_2_0, z_2_1, v_2_0, v_2_1⟩ | exact ⟨x_1_0, x_1_1, y_1_0, y_1_1, z_1_0, z_1_1, v_1_0, v_1_1⟩ | go_keep)
    (first
      | (go_at_call_of 12 (Value.agg #[Value.bool b, Value.slice va vn vc]); ((with_reducible refine Calls.mono (isame_t v_6.out.ci U_6.out rfl) ?_); rintro e w_7 ⟨rfl, k_7⟩; have x_7 := Lib.hid (x_6.out.keep k_7); obtain ⟨x_7_0, x_7_1, _, _, _⟩ := x_7.out.box; have y_7 := Lib.hid (y_6.out.keep k_7); obtain ⟨y_7_0, y_7_1, _, _, _⟩ := y_7.out.box; have z_7 := Lib.hid (z_6.out.keep k_7); obtain ⟨z_7_0, z_7_1, _, _, _⟩ := z_7.out.box; have v_7 := Lib.hid (v_6.out.keep k_7); obtain ⟨v_7_0, v_7_1, _, _, _⟩ := v_7.out.bx.box; have bw_7 := Lib.hid (bw_6.out.trans k_7); clear k_7))
      | (go_at_call_of 23 (Value.agg #[Value.bool s2, Value.slice a2 len2 cap2]); ((with_reducible refine Calls.mono ((by have H := add_z (y_5.out.iz HL2.out) (x_5.out.iz HL.out) (by omega) (by omega); rw [HZ.out, HZ2.out, Int.add_comm] at H; exact H)) ?_); rintro e w_6 ⟨u6, rfl, hu, k_6⟩; have x_6 := Lib.hid (x_5.out.keep k_6); obtain ⟨x_6_0, x_6_1, _, _, _⟩ := x_6.out.box; have y_6 := Lib.hid (y_5.out.keep k_6); obtain ⟨y_6_0, y_6_1, _, _, _⟩ := y_6.out.box; have z_6 := Lib.hid (z_5.out.keep k_6); obtain ⟨z_6_0, z_6_1, _, _, _⟩ := z_6.out.box; have v_6 := Lib.hid (v_5.out.keep k_6); obtain ⟨v_6_0, v_6_1, _, _, _⟩ := v_6.out.bx.box; have bw_6 := Lib.hid (bw_5.out.trans k_6); have U_6 := Lib.hid hu; clear hu; clear k_6))
      | (go_at_call 12; ((with_reducible refine Calls.mono (isame_t U_34.out U_4.out rfl) ?_); rintro e w_5 ⟨rfl, k_5⟩; have x_5 := Lib.hid (x_4.out.keep k_5); obtain ⟨x_5_0, x_5_1, _, _, _⟩ := x_5.out.box; have y_5 := Lib.hid (y_4.out.keep k_5); obtain ⟨y_5_0, y_5_1, _, _, _⟩ := y_5.out.box; have z_5 := Lib.hid (z_4.out.keep k_5); obtain ⟨z_5_0, z_5_1, _, _, _⟩ := z_5.out.box; have v_5 := Lib.hid (v_4.out.keep k_5); obtain ⟨v_5_0, v_5_1, _, _, _⟩ := v_5.out.bx.box; have bw_5 := Lib.hid (bw_4.out.trans k_5); clear k_5))
      | (go_at_call 26; ((with_reducible refine Calls.mono ((by have H := rsub_z (x_3.out.iz HL.out) (y_3.out.iz HL2.out) (by omega) (by omega); rw [HZ.out, HZ2.out] at H; exact H)) ?_); rintro e w_4 ⟨u4, rfl, hu, k_4⟩; have x_4 := Lib.hid (x_3.out.keep k_4); obtain ⟨x_4_0, x_4_1, _, _, _⟩ := x_4.out.box; have y_4 := Lib.hid (y_3.out.keep k_4); obtain ⟨y_4_0, y_4_1, _, _, _⟩ := y_4.out.box; have z_4 := Lib.hid (z_3.out.keep k_4); obtain ⟨z_4_0, z_4_1, _, _, _⟩ := z_4.out.box; have v_4 := Lib.hid (v_3.out.keep k_4); obtain ⟨v_4_0, v_4_1, _, _, _⟩ := v_4.out.bx.box; have bw_4 := Lib.hid (bw_3.out.trans k_4); have U_4 := Lib.hid hu; have U_34 := Lib.hid (U_3.out.keep k_4); clear hu; clear k_4))
      | (go_at_call 25; ((with_reducible refine Calls.mono ((by have H := sub_z (x_2.out.iz HL.out) (y_2.out.iz HL2.out) (by omega) (by omega); rw [HZ.out, HZ2.out] at H; exact H)) ?_); rintro e w_3 ⟨u3, rfl, hu, k_3⟩; have x_3 := Lib.hid (x_2.out.keep k_3); obtain ⟨x_3_0, x_3_1, _, _, _⟩ := x_3.out.box; have y_3 := Lib.hid (y_2.out.keep k_3); obtain ⟨y_3_0, y_3_1, _, _, _⟩ := y_3.out.box; have z_3 := Lib.hid (z_2.out.keep k_3); obtain ⟨z_3_0, z_3_1, _, _, _⟩ := z_3.out.box; have v_3 := Lib.hid (v_2.out.keep k_3); obtain ⟨v_3_0, v_3_1, _, _, _⟩ := v_3.out.bx.box; have bw_3 := Lib.hid (bw_2.out.trans k_3); have U_3 := Lib.hid hu; clear hu; clear k_3))
      | (go_at_call_of 12 (Value.agg #[Value.bool b, Value.slice va vn vc]); ((with_reducible refine Calls.mono (isame_t v_1.out.ci U_1.out rfl) ?_); rintro e w_2 ⟨rfl, k_2⟩; have x_2 := Lib.hid (x_1.out.keep k_2); obtain ⟨x_2_0, x_2_1, _, _, _⟩ := x_2.out.box; have y_2 := Lib.hid (y_1.out.keep k_2); obtain ⟨y_2_0, y_2_1, _, _, _⟩ := y_2.out.box; have z_2 := Lib.hid (z_1.out.keep k_2); obtain ⟨z_2_0, z_2_1, _, _, _⟩ := z_2.out.box; have v_2 := Lib.hid (v_1.out.keep k_2); obtain ⟨v_2_0, v_2_1, _, _, _⟩ := v_2.out.bx.box; have bw_2 := Lib.hid (bw_1.out.trans k_2); clear k_2))
      | (go_at_call 24; ((with_reducible refine Calls.mono ((by have H := radd_z (x_0.out.iz HL.out) (y_0.out.iz HL2.out) (by omega) (by omega); rw [HZ.out, HZ2.out] at H; exact H)) ?_); rintro e w_1 ⟨u1, rfl, hu, k_1⟩; have x_1 := Lib.hid (x_0.out.keep k_1); obtain ⟨x_1_0, x_1_1, _, _, _⟩ := x_1.out.box; have y_1 := Lib.hid (y_0.out.keep k_1); obtain ⟨y_1_0, y_1_1, _, _, _⟩ := y_1.out.box; have z_1 := Lib.hid (z_0.out.keep k_1); obtain ⟨z_1_0, z_1_1, _, _, _⟩ := z_1.out.box; have v_1 := Lib.hid (v_0.out.keep k_1); obtain ⟨v_1_0, v_1_1, _, _, _⟩ := v_1.out.bx.box; have bw_1 := Lib.hid (bw_0.out.trans k_1); have U_1 := Lib.hid hu; clear hu; clear k_1)))
  all_goals
    have bx_0 := Lib.hid (x_7.out.keep (keep_drew _))
    have by_0 := Lib.hid (y_7.out.keep (keep_drew _))
    have bz_0 := Lib.hid (z_7.out.keep (keep_drew _))
    have vv_0 := Lib.hid (v_7.out.keep (keep_drew _))
    have bw_0 := Lib.hid (bw_7.out.trans (keep_drew _))
    obtain ⟨g0, g1, _, _, _⟩ := bx_0.out.box
    obtain ⟨g2, g3, _, _, _⟩ := by_0.out.box
    obtain ⟨g4, g5, _, _, _⟩ := bz_0.out.box
    obtain ⟨g6, g7, _, _, _⟩ := vv_0.out.bx.box
    go_wp2
    go_region_held3 (fun w' => w'.cell? ⟨w.heap.size, 0, none⟩ = some (.bool s) ∧ w'.cell? ⟨w.heap.size, 1, none⟩ = some (.slice a len cap) ∧ w'.cell? ⟨(w.heap.size + 1), 0, none⟩ = some (.bool s2) ∧ w'.cell? ⟨(w.heap.size + 1), 1, none⟩ = some (.slice a2 len2 cap2) ∧ w'.cell? ⟨(w.heap.size + 1 + 1), 0, none⟩ = some (.bool s3) ∧ w'.cell? ⟨(w.heap.size + 1 + 1), 1, none⟩ = some (.slice a3 len3 cap3) ∧ w'.cell? ⟨w3.heap.size, 0, none⟩ = some (.bool b) ∧ w'.cell? ⟨w3.heap.size, 1, none⟩ = some (.slice va vn vc)) (first | exact ⟨bx_7_0, bx_7_1, by_7_0, by_7_1, bz_7_0, bz_7_1, vv_7_0, vv_7_1⟩ | exact ⟨bx_6_0, bx_6_1, by_6_0, by_6_1, bz_6_0, bz_6_1, vv_6_0, vv_6_1⟩ | exact ⟨bx_5_0, bx_5_1, by_5_0, by_5_1, bz_5_0, bz_5_1, vv_5_0, vv_5_1⟩ | exact ⟨bx_4_0, bx_4_1, by_4_0, by_4_1, bz_4_0, bz_4_1, vv_4_0, vv_4_1⟩ | exact ⟨bx_3_0, bx_3_1, by_3_0, by_3_1, bz_3_0, bz_3_1, vv_3_0, vv_3_1⟩ | exact ⟨bx_2_0, bx_2_1, by_2_0, by_2_1, bz_2_0, bz_2_1, vv_2_0, vv_2_1⟩ | exact ⟨bx_1_0, bx_1_1, by_1_0, by_1_1, bz_1_0, bz_1_1, vv_1_0, vv_1_1⟩ | go_keep)
      (first
        | (go_at_call 16; ((with_reducible refine Calls.mono ((by have H := sign_z (T_6.out.iz (k := 1) (by decide)) (by omega); rw [HS0.out] at H; exact H)) ?_); rintro e w_7 ⟨rfl, k_7⟩; have bx_7 := Lib.hid (bx_6.out.keep k_7); obtain ⟨bx_7_0, bx_7_1, _, _, _⟩ := bx_7.out.box; have by_7 := Lib.hid (by_6.out.keep k_7); obtain ⟨by_7_0, by_7_1, _, _, _⟩ := by_7.out.box; have bz_7 := Lib.hid (bz_6.out.keep k_7); obtain ⟨bz_7_0, bz_7_1, _, _, _⟩ := bz_7.out.box; have vv_7 := Lib.hid (vv_6.out.keep k_7); obtain ⟨vv_7_0, vv_7_1, _, _, _⟩ := vv_7.out.bx.box; have bw_7 := Lib.hid (bw_6.out.trans k_7); clear k_7))
        | (go_at_call_of 23 (Value.agg #[Value.bool s, Value.slice a len cap]); ((with_reducible refine Calls.mono ((by have H := add_z (bx_5.out.iz HL.out) (T_5.out.iz (k := 8) HNX.out) (by omega) (by omega); rw [HZ.out, Int.add_right_neg] at H; exact H)) ?_); rintro e w_6 ⟨t6, rfl, hu, k_6⟩; have bx_6 := Lib.hid (bx_5.out.keep k_6); obtain ⟨bx_6_0, bx_6_1, _, _, _⟩ := bx_6.out.box; have by_6 := Lib.hid (by_5.out.keep k_6); obtain ⟨by_6_0, by_6_1, _, _, _⟩ := by_6.out.box; have bz_6 := Lib.hid (bz_5.out.keep k_6); obtain ⟨bz_6_0, bz_6_1, _, _, _⟩ := bz_6.out.box; have vv_6 := Lib.hid (vv_5.out.keep k_6); obtain ⟨vv_6_0, vv_6_1, _, _, _⟩ := vv_6.out.bx.box; have bw_6 := Lib.hid (bw_5.out.trans k_6); have T_6 := Lib.hid hu; clear hu; clear k_6))
        | (go_at_call 27; ((with_reducible refine Calls.mono ((by have H := neg_z (bx_4.out.iz HL.out) (by omega); rw [HZ.out] at H; exact H)) ?_); rintro e w_5 ⟨t5, rfl, hu, k_5⟩; have bx_5 := Lib.hid (bx_4.out.keep k_5); obtain ⟨bx_5_0, bx_5_1, _, _, _⟩ := bx_5.out.box; have by_5 := Lib.hid (by_4.out.keep k_5); obtain ⟨by_5_0, by_5_1, _, _, _⟩ := by_5.out.box; have bz_5 := Lib.hid (bz_4.out.keep k_5); obtain ⟨bz_5_0, bz_5_1, _, _, _⟩ := bz_5.out.box; have vv_5 := Lib.hid (vv_4.out.keep k_5); obtain ⟨vv_5_0, vv_5_1, _, _, _⟩ := vv_5.out.bx.box; have bw_5 := Lib.hid (bw_4.out.trans k_5); have T_5 := Lib.hid hu; clear hu; clear k_5))
        | (go_at_call 12; ((with_reducible refine Calls.mono (isame_t T_13.out T_3.out rfl) ?_); rintro e w_4 ⟨rfl, k_4⟩; have bx_4 := Lib.hid (bx_3.out.keep k_4); obtain ⟨bx_4_0, bx_4_1, _, _, _⟩ := bx_4.out.box; have by_4 := Lib.hid (by_3.out.keep k_4); obtain ⟨by_4_0, by_4_1, _, _, _⟩ := by_4.out.box; have bz_4 := Lib.hid (bz_3.out.keep k_4); obtain ⟨bz_4_0, bz_4_1, _, _, _⟩ := bz_4.out.box; have vv_4 := Lib.hid (vv_3.out.keep k_4); obtain ⟨vv_4_0, vv_4_1, _, _, _⟩ := vv_4.out.bx.box; have bw_4 := Lib.hid (bw_3.out.trans k_4); clear k_4))
        | (go_at_call_of 23 (Value.agg #[Value.bool s, Value.slice a len cap]); ((with_reducible refine Calls.mono ((by have H := add_z (bx_2.out.iz HL.out) (T_2.out.iz (k := 17) HYA.out) (by omega) (by omega); rw [HZ.out, ← Int.add_assoc] at H; exact H)) ?_); rintro e w_3 ⟨t3, rfl, hu, k_3⟩; have bx_3 := Lib.hid (bx_2.out.keep k_3); obtain ⟨bx_3_0, bx_3_1, _, _, _⟩ := bx_3.out.box; have by_3 := Lib.hid (by_2.out.keep k_3); obtain ⟨by_3_0, by_3_1, _, _, _⟩ := by_3.out.box; have bz_3 := Lib.hid (bz_2.out.keep k_3); obtain ⟨bz_3_0, bz_3_1, _, _, _⟩ := bz_3.out.box; have vv_3 := Lib.hid (vv_2.out.keep k_3); obtain ⟨vv_3_0, vv_3_1, _, _, _⟩ := vv_3.out.bx.box; have bw_3 := Lib.hid (bw_2.out.trans k_3); have T_3 := Lib.hid hu; have T_13 := Lib.hid (T_12.out.keep k_3); clear hu; clear k_3))
        | (go_at_call_of 23 (Value.agg #[Value.bool s2, Value.slice a2 len2 cap2]); ((with_reducible refine Calls.mono ((by have H := add_z (by_1.out.iz HL2.out) (bz_1.out.iz HL3.out) (by omega) (by omega); rw [HZ2.out, HZ3.out] at H; exact H)) ?_); rintro e w_2 ⟨t2, rfl, hu, k_2⟩; have bx_2 := Lib.hid (bx_1.out.keep k_2); obtain ⟨bx_2_0, bx_2_1, _, _, _⟩ := bx_2.out.box; have by_2 := Lib.hid (by_1.out.keep k_2); obtain ⟨by_2_0, by_2_1, _, _, _⟩ := by_2.out.box; have bz_2 := Lib.hid (bz_1.out.keep k_2); obtain ⟨bz_2_0, bz_2_1, _, _, _⟩ := bz_2.out.box; have vv_2 := Lib.hid (vv_1.out.keep k_2); obtain ⟨vv_2_0, vv_2_1, _, _, _⟩ := vv_2.out.bx.box; have bw_2 := Lib.hid (bw_1.out.trans k_2); have T_2 := Lib.hid hu; have T_12 := Lib.hid (T_1.out.keep k_2); clear hu; clear k_2))
        | (go_at_call_of 23 (Value.agg #[Value.bool b, Value.slice va vn vc]); ((with_reducible refine Calls.mono ((by have H := add_z (vv_0.out.iz HVL.out) (bz_0.out.iz HL3.out) (by omega) (by omega); rw [HZ3.out] at H; exact H)) ?_); rintro e w_1 ⟨t1, rfl, hu, k_1⟩; have bx_1 := Lib.hid (bx_0.out.keep k_1); obtain ⟨bx_1_0, bx_1_1, _, _, _⟩ := bx_1.out.box; have by_1 := Lib.hid (by_0.out.keep k_1); obtain ⟨by_1_0, by_1_1, _, _, _⟩ := by_1.out.box; have bz_1 := Lib.hid (bz_0.out.keep k_1); obtain ⟨bz_1_0, bz_1_1, _, _, _⟩ := bz_1.out.box; have vv_1 := Lib.hid (vv_0.out.keep k_1); obtain ⟨vv_1_0, vv_1_1, _, _, _⟩ := vv_1.out.bx.box; have bw_1 := Lib.hid (bw_0.out.trans k_1); have T_1 := Lib.hid hu; clear hu; clear k_1)))
    all_goals
      go_wp2
      go_ret
      exact ⟨rfl, bw_7.out⟩
theorem law5_c {w : World} {s s2 s3 : Bool} {a a2 a3 : Option Addr} {len cap len2 cap2 len3 cap3 : Nat} {l l2 l3 : List Nat} (hr : Rd w a len cap l) (hr2 : Rd w a2 len2 cap2 l2) (hr3 : Rd w a3 len3 cap3 l3) : Calls Try.prog 5 #[.agg #[.bool s, .slice a len cap], .agg #[.bool s2, .slice a2 len2 cap2], .agg #[.bool s3, .slice a3 len3 cap3]] w (BPost true w) := by
  by_cases h : len ≤ 8 ∧ len2 ≤ 8 ∧ len3 ≤ 8
  · exact law5_few hr hr2 hr3 h.1 h.2.1 h.2.2
  · exact law5_many hr hr2 hr3 h
end Go.Proofs.Ytjkfnnoakjdgmaa
