/- Walks of layer 2: the laws of Neg, Int. -/
import Derived.Test.YtjkfnnoakjdgmaaH
namespace Go.Proofs.Ytjkfnnoakjdgmaa
open Go.RowKit
set_option linter.unusedVariables false
theorem Cx.iz {g : Nat} {b : Bool} {a : Option Addr} {n c : Nat} {z : Int} {w : World} {k : Nat} (h : Cx g b a n c z w) (hk : (dig z.natAbs).length ≤ k) : Iz w (.agg #[.bool b, .slice a n c]) z k :=
  ⟨b, z.natAbs, by rw [← h.sg]; exact iv_abs z, _, rfl, _, ⟨a, n, c, rfl, h.bx.rd⟩, nv_dig _, hk⟩
theorem iv_len {s : Bool} {l : List Nat} {z : Int} (hl : Lim l) (hz : iv s (nv l) = z) : (dig z.natAbs).length ≤ l.length := by
  have : z.natAbs = nv l := by rw [← hz]; cases s <;> simp [iv]
  rw [this]
  exact dig_length_le hl
theorem sgn_neg (z : Int) : sgn (-z) = -(sgn z) := by
  rcases sgn_facts z with h | h | h <;> rcases sgn_facts (-z) with g | g | g <;> omega
theorem sgn_ge (z : Int) : -1 ≤ sgn z ∧ sgn z ≤ 1 := by
  rcases sgn_facts z with h | h | h <;> omega
set_option maxHeartbeats 1000000 in
theorem law9_big {w : World} {s : Bool} {a : Option Addr} {len cap : Nat} {l : List Nat} (hr : Rd w a len cap l) (hb : 30 < len) : Calls Try.prog 9 #[.agg #[.bool s, .slice a len cap]] w (BPost true w) := by
  have K0 : Keep w (w.alloc (.cells #[.bool s, .slice a len cap] 25)) := (Keep.refl w).alloc _
  have B0 := RBox.new w s a len cap
  have h5 := hr.le_cap
  have h6 := hr.cap_le
  have hd : decide ((30 : Int) < (len : Int)) = true := decide_eq_true (by omega)
  have AW := Lib.hid (fun w1 => awake_c w1)
  clear hr
  go_enter Try.func9, Try.ntmps9
  go_wp2_with fail
  refine Calls.mono (AW.out _) ?_
  rintro e w1 ⟨rfl, k1⟩
  obtain ⟨q0, q1, _, _, _⟩ := B0.keep k1
  have HK := Lib.hid (K0.trans k1)
  clear K0 B0 k1
  go_wp2
  go_ret
  exact ⟨rfl, HK.out⟩
set_option maxHeartbeats 2000000 in
theorem law9_small {w : World} {s : Bool} {a : Option Addr} {len cap : Nat} {l : List Nat} (hr : Rd w a len cap l) (hb : ¬ 30 < len) : Calls Try.prog 9 #[.agg #[.bool s, .slice a len cap]] w (BPost true w) := by
  have X0 : Bx w.heap.size s a len cap l (w.alloc (.cells #[.bool s, .slice a len cap] 25)) := ⟨RBox.new w s a len cap, hr.alloc _⟩
  have K0 : Keep w (w.alloc (.cells #[.bool s, .slice a len cap] 25)) := (Keep.refl w).alloc _
  have h5 := hr.le_cap
  have h6 := hr.cap_le
  have hlen : l.length ≤ 30 := by rw [hr.len_eq]; omega
  have hd : decide ((30 : Int) < (len : Int)) = false := decide_eq_false (by omega)
  have AW := Lib.hid (fun w1 => awake_c w1)
  obtain ⟨z, hz⟩ : ∃ z, iv s (nv l) = z := ⟨_, rfl⟩
  have HZ := Lib.hid hz
  have HL := Lib.hid hlen
  have HD : Hid ((dig (-z).natAbs).length ≤ 30) := Lib.hid (by rw [Int.natAbs_neg]; exact Nat.le_trans (iv_len hr.lim hz) hlen)
  obtain ⟨σ, hσ⟩ : ∃ σ, sgn z = σ := ⟨_, rfl⟩
  have HS := Lib.hid hσ
  have HSN : Hid (sgn (-z) = -σ) := Lib.hid (by rw [sgn_neg, hσ])
  have HW : Hid (IntKind.i64.wrap (-σ) = -σ) := Lib.hid (by have := hσ ▸ sgn_ge z; simp [IntKind.wrap, IntKind.bits, IntKind.signed]; omega)
  clear hσ
  clear hr hz hlen
  go_enter Try.func9, Try.ntmps9
  go_wp2_with fail
  refine Calls.mono (AW.out _) ?_
  rintro e w1 ⟨rfl, k1⟩
  have X1 := X0.keep k1
  have K1 := K0.trans k1
  obtain ⟨q0, q1, _, _, _⟩ := X1.box
  clear X0 K0 k1
  have MK := Lib.hid (neg_z (X1.iz HL.out) (by omega))
  rw [HZ.out] at MK
  go_wp2_with fail
  refine Calls.mono MK.out ?_
  rintro e w2 ⟨v, rfl, hv, k2⟩
  obtain ⟨b, va, vn, vc, rfl, V2⟩ := hv.box
  have X2 := X1.keep k2
  have K2 := K1.trans k2
  have x_0 := Lib.hid (X2.keep (keep_new w2 (.cells #[.bool b, .slice va vn vc] 25)))
  have v_0 := Lib.hid (V2.keep (keep_drew _))
  have bw_0 := Lib.hid (K2.trans (keep_new w2 (.cells #[.bool b, .slice va vn vc] 25)))
  obtain ⟨p0, p1, _, _, _⟩ := x_0.out.box
  obtain ⟨p2, p3, _, _, _⟩ := v_0.out.bx.box
  obtain ⟨r0, r1, _, _, _⟩ := X2.box
  clear X1 K1 k2 hv V2 X2 K2
  go_wp2
  go_region_held3 (fun w' => w'.cell? ⟨w.heap.size, 0, none⟩ = some (.bool s) ∧ w'.cell? ⟨w.heap.size, 1, none⟩ = some (.slice a len cap) ∧ w'.cell? ⟨w2.heap.size, 0, none⟩ = some (.bool b) ∧ w'.cell? ⟨w2.heap.size, 1, none⟩ = some (.slice va vn vc)) (first | exact ⟨x_7_0, x_7_1, v_7_0, v_7_1⟩ | exact ⟨x_6_0, x_6_1, v_6_0, v_6_1⟩ | exact ⟨x_5_0, x_5_1, v_5_0, v_5_1⟩ | exact ⟨x_4_0, x_4_1, v_4_0, v_4_1⟩ | exact ⟨x_3_0, x_3_1, v_3_0, v_3_1⟩ | exact ⟨x_2_0, x_2_1, v_2_0, v_2_1⟩ | exact ⟨x_1_0, x_1_1, v_1_0, v_1_1⟩ | go_keep)
    (first
      | (go_at_call_of 16 (Value.agg #[Value.bool s, Value.slice a len cap]); ((with_reducible refine Calls.mono ((by have H := sign_z (x_6.out.iz HL.out) (by omega); rw [HZ.out, HS.out] at H; exact H)) ?_); rintro e w_7 ⟨rfl, k_7⟩; have x_7 := Lib.hid (x_6.out.keep k_7); obtain ⟨x_7_0, x_7_1, _, _, _⟩ := x_7.out.box; have v_7 := Lib.hid (v_6.out.keep k_7); obtain ⟨v_7_0, v_7_1, _, _, _⟩ := v_7.out.bx.box; have bw_7 := Lib.hid (bw_6.out.trans k_7); clear k_7))
      | (go_at_call_of 16 (Value.agg #[Value.bool b, Value.slice va vn vc]); ((with_reducible refine Calls.mono ((by have H := sign_z (v_5.out.iz HD.out) (by omega); rw [HSN.out] at H; exact H)) ?_); rintro e w_6 ⟨rfl, k_6⟩; have x_6 := Lib.hid (x_5.out.keep k_6); obtain ⟨x_6_0, x_6_1, _, _, _⟩ := x_6.out.box; have v_6 := Lib.hid (v_5.out.keep k_6); obtain ⟨v_6_0, v_6_1, _, _, _⟩ := v_6.out.bx.box; have bw_6 := Lib.hid (bw_5.out.trans k_6); clear k_6))
      | (go_at_call 12; ((with_reducible refine Calls.mono (isame_t U_34.out U_4.out rfl) ?_); rintro e w_5 ⟨rfl, k_5⟩; have x_5 := Lib.hid (x_4.out.keep k_5); obtain ⟨x_5_0, x_5_1, _, _, _⟩ := x_5.out.box; have v_5 := Lib.hid (v_4.out.keep k_5); obtain ⟨v_5_0, v_5_1, _, _, _⟩ := v_5.out.bx.box; have bw_5 := Lib.hid (bw_4.out.trans k_5); clear k_5))
      | (go_at_call 13; ((with_reducible refine Calls.mono ((by have H := rimake_c s (x_3.out.rd.nm HL.out) (by omega); rw [HZ.out] at H; exact H)) ?_); rintro e w_4 ⟨u4, rfl, hu, k_4⟩; have x_4 := Lib.hid (x_3.out.keep k_4); obtain ⟨x_4_0, x_4_1, _, _, _⟩ := x_4.out.box; have v_4 := Lib.hid (v_3.out.keep k_4); obtain ⟨v_4_0, v_4_1, _, _, _⟩ := v_4.out.bx.box; have bw_4 := Lib.hid (bw_3.out.trans k_4); have U_4 := Lib.hid hu; have U_34 := Lib.hid (U_3.out.keep k_4); clear hu; clear k_4))
      | (go_at_call 27; ((with_reducible refine Calls.mono ((by have H := neg_z (v_2.out.iz HD.out) (by omega); rw [Int.neg_neg] at H; exact H)) ?_); rintro e w_3 ⟨u3, rfl, hu, k_3⟩; have x_3 := Lib.hid (x_2.out.keep k_3); obtain ⟨x_3_0, x_3_1, _, _, _⟩ := x_3.out.box; have v_3 := Lib.hid (v_2.out.keep k_3); obtain ⟨v_3_0, v_3_1, _, _, _⟩ := v_3.out.bx.box; have bw_3 := Lib.hid (bw_2.out.trans k_3); have U_3 := Lib.hid hu; clear hu; clear k_3))
      | (go_at_call 12; ((with_reducible refine Calls.mono (isame_t v_1.out.ci U_1.out rfl) ?_); rintro e w_2 ⟨rfl, k_2⟩; have x_2 := Lib.hid (x_1.out.keep k_2); obtain ⟨x_2_0, x_2_1, _, _, _⟩ := x_2.out.box; have v_2 := Lib.hid (v_1.out.keep k_2); obtain ⟨v_2_0, v_2_1, _, _, _⟩ := v_2.out.bx.box; have bw_2 := Lib.hid (bw_1.out.trans k_2); clear k_2))
      | (go_at_call 34; ((with_reducible refine Calls.mono ((by have H := rneg_z (x_0.out.iz HL.out) (by omega); rw [HZ.out] at H; exact H)) ?_); rintro e w_1 ⟨u, rfl, hu, k_1⟩; have x_1 := Lib.hid (x_0.out.keep k_1); obtain ⟨x_1_0, x_1_1, _, _, _⟩ := x_1.out.box; have v_1 := Lib.hid (v_0.out.keep k_1); obtain ⟨v_1_0, v_1_1, _, _, _⟩ := v_1.out.bx.box; have bw_1 := Lib.hid (bw_0.out.trans k_1); have U_1 := Lib.hid hu; clear hu; clear k_1)))
  all_goals
    go_wp2
    go_ret
    exact ⟨by show Ending.returned (.bool (-σ == IntKind.i64.wrap (-σ))) = _; rw [HW.out, beq_self_eq_true], bw_7.out⟩
theorem law9_c {w : World} {s : Bool} {a : Option Addr} {len cap : Nat} {l : List Nat} (hr : Rd w a len cap l) : Calls Try.prog 9 #[.agg #[.bool s, .slice a len cap]] w (BPost true w) := by
  by_cases h : 30 < len
  · exact law9_big hr h
  · exact law9_small hr h
set_option maxHeartbeats 1000000 in
theorem law4_big {w : World} {x : Int} {s : Bool} {a : Option Addr} {len cap : Nat} {l : List Nat} (hr : Rd w a len cap l) (hb : 30 < len) : Calls Try.prog 4 #[.int .i64 x, .agg #[.bool s, .slice a len cap]] w (BPost true w) := by
  have K0 : Keep w (w.alloc (.cells #[.bool s, .slice a len cap] 25)) := (Keep.refl w).alloc _
  have B0 := RBox.new w s a len cap
  have h5 := hr.le_cap
  have h6 := hr.cap_le
  have hd : decide ((30 : Int) < (len : Int)) = true := decide_eq_true (by omega)
  have AW := Lib.hid (fun w1 => awake_c w1)
  clear hr
  go_enter Try.func4, Try.ntmps4
  go_wp2_with fail
  refine Calls.mono (AW.out _) ?_
  rintro e w1 ⟨rfl, k1⟩
  obtain ⟨q0, q1, _, _, _⟩ := B0.keep k1
  have HK := Lib.hid (K0.trans k1)
  clear K0 B0 k1
  go_wp2
  go_ret
  exact ⟨rfl, HK.out⟩
set_option maxHeartbeats 2000000 in
theorem law4_small {w : World} {x : Int} {s : Bool} {a : Option Addr} {len cap : Nat} {l : List Nat} (hx1 : -9223372036854775808 ≤ x) (hx2 : x ≤ 9223372036854775807) (hr : Rd w a len cap l) (hb : ¬ 30 < len) : Calls Try.prog 4 #[.int .i64 x, .agg #[.bool s, .slice a len cap]] w (BPost true w) := by
  have X0 : Bx w.heap.size s a len cap l (w.alloc (.cells #[.bool s, .slice a len cap] 25)) := ⟨RBox.new w s a len cap, hr.alloc _⟩
  have K0 : Keep w (w.alloc (.cells #[.bool s, .slice a len cap] 25)) := (Keep.refl w).alloc _
  have h5 := hr.le_cap
  have h6 := hr.cap_le
  have hlen : l.length ≤ 30 := by rw [hr.len_eq]; omega
  have hd : decide ((30 : Int) < (len : Int)) = false := decide_eq_false (by omega)
  have AW := Lib.hid (fun w1 => awake_c w1)
  have OF := Lib.hid (fun w1 => iof_c x w1 hx1 hx2)
  have RO := Lib.hid (fun w1 => riof_c x w1 hx1 hx2)
  have IX := Lib.hid (fun w1 v (h : Ci w1 v x) => int_z (w := w1) (h.iz (k := 2) (by rw [show BB ^ 2 = 18446744073709551616 from by decide]; omega)) (by omega))
  unfold IntPost at IX
  rw [(intB_t hx1 (by omega)).1, (intB_t hx1 (by omega)).2] at IX
  obtain ⟨z, hz⟩ : ∃ z, iv s (nv l) = z := ⟨_, rfl⟩
  have IY := Lib.hid (fun w1 (h : Bx w.heap.size s a len cap l w1) => int_z (w := w1) (h.iz hlen) (by omega))
  have RY := Lib.hid (fun w1 (h : Bx w.heap.size s a len cap l w1) => rint_z (w := w1) (h.iz hlen) (by omega))
  rw [hz] at IY RY
  unfold IntPost at IY RY
  obtain ⟨V, hV⟩ : ∃ V, intV z = V := ⟨_, rfl⟩
  obtain ⟨B, hB⟩ : ∃ B, intB z = B := ⟨_, rfl⟩
  rw [hV, hB] at IY RY
  clear hr hz hlen hV hB
  go_enter Try.func4, Try.ntmps4
  go_wp2_with fail
  refine Calls.mono (AW.out _) ?_
  rintro e w1 ⟨rfl, k1⟩
  have X1 := X0.keep k1
  have K1 := K0.trans k1
  obtain ⟨q0, q1, _, _, _⟩ := X1.box
  clear X0 K0 k1
  go_wp2_with fail
  refine Calls.mono (OF.out _) ?_
  rintro e w2 ⟨v, rfl, hv, k2⟩
  have X2 := X1.keep k2
  have K2 := K1.trans k2
  clear X1 K1 k2
  go_wp2_with fail
  refine Calls.mono (IX.out _ _ hv) ?_
  rintro e w3 ⟨rfl, k3⟩
  have X3 := X2.keep k3
  have K3 := K2.trans k3
  obtain ⟨r0, r1, _, _, _⟩ := X3.box
  clear X2 K2 k3 hv
  go_wp2_with fail
  refine Calls.mono (IY.out _ X3) ?_
  rintro e w4 ⟨rfl, k4⟩
  have X4 := X3.keep k4
  have K4 := K3.trans k4
  obtain ⟨s0, s1, _, _, _⟩ := X4.box
  clear X3 K3 k4
  go_wp2_with fail
  refine Calls.mono (RY.out _ X4) ?_
  rintro e w5 ⟨rfl, k5⟩
  have K5 := K4.trans k5
  clear X4 K4 k5
  go_wp2_with fail
  refine Calls.mono (OF.out _) ?_
  rintro e w6 ⟨v6, rfl, hv6, k6⟩
  have K6 := K5.trans k6
  clear K5 k6
  go_wp2_with fail
  refine Calls.mono (RO.out _) ?_
  rintro e w7 ⟨v7, rfl, hv7, k7⟩
  have hv6' := hv6.keep k7
  have K7 := K6.trans k7
  clear K6 k7 hv6
  go_wp2_with fail
  refine Calls.mono (isame_t hv6' hv7 rfl) ?_
  rintro e w8 ⟨rfl, k8⟩
  have K8 := Lib.hid (K7.trans k8)
  clear K7 k8 hv6' hv7
  go_wp2
  go_ret
  exact ⟨rfl, K8.out⟩
theorem law4_c {w : World} {x : Int} {s : Bool} {a : Option Addr} {len cap : Nat} {l : List Nat} (hx : -9223372036854775808 ≤ x ∧ x ≤ 9223372036854775807) (hr : Rd w a len cap l) : Calls Try.prog 4 #[.int .i64 x, .agg #[.bool s, .slice a len cap]] w (BPost true w) := by
  by_cases h : 30 < len
  · exact law4_big hr h
  · exact law4_small hx.1 hx.2 hr h
theorem wf_i64 {n : Int} (h : (Lit.int .i64 n).wf = true) : -9223372036854775808 ≤ n ∧ n ≤ 9223372036854775807 := by
  simpa [Lit.wf, IntKind.min, IntKind.max, IntKind.signed, IntKind.bits] using h
end Go.Proofs.Ytjkfnnoakjdgmaa
