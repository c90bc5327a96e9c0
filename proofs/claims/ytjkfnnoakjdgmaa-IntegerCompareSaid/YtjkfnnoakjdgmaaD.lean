/- Walks of layer 2: Int. -/
import Derived.Test.YtjkfnnoakjdgmaaC
namespace Go.Proofs.Ytjkfnnoakjdgmaa
open Go.RowKit
set_option linter.unusedVariables false
/-- does z fit an int64? -/
def intB (z : Int) : Bool := decide (-9223372036854775808 ≤ z ∧ z < 9223372036854775808)
def intV (z : Int) : Int := if intB z then z else 0
def IntPost (z : Int) (w : World) (e : Ending) (w' : World) : Prop := e = .returned (.tuple #[.int .i64 (intV z), .bool (intB z)]) ∧ Keep w w'
theorem intB_t {z : Int} (h1 : -9223372036854775808 ≤ z) (h2 : z < 9223372036854775808) : intB z = true ∧ intV z = z := by
  have e : intB z = true := decide_eq_true ⟨h1, h2⟩
  exact ⟨e, by unfold intV; rw [e]; rfl⟩
theorem intB_f {z : Int} (h : ¬ (-9223372036854775808 ≤ z ∧ z < 9223372036854775808)) : intB z = false ∧ intV z = 0 := by
  have e : intB z = false := decide_eq_false h
  exact ⟨e, by unfold intV; rw [e]; rfl⟩
theorem neg_wrap (n : Nat) (h : n ≤ 9223372036854775808) : IntKind.i64.wrap (IntKind.u64.wrap (-(n : Int))) = -(n : Int) := by
  simp [IntKind.wrap, IntKind.bits, IntKind.signed]; omega
theorem pos_wrap (n : Nat) (h : n < 9223372036854775808) : IntKind.i64.wrap (n : Int) = (n : Int) := by
  simp [IntKind.wrap, IntKind.bits, IntKind.signed]; omega
set_option maxHeartbeats 400000 in
theorem iint_0 {w : World} {a : Option Addr} {len cap n k : Nat} (hm : Nm w (.slice a len cap) n k) (hk : k ≤ 1048576) (h : 18446744073709551616 ≤ n) : Calls Try.prog 18 #[.agg #[.bool true, .slice a len cap]] w (IntPost (iv true n) w) := by
  have B1 := RBox.new w true a len cap
  have K1 : Keep w (w.alloc (.cells #[.bool true, .slice a len cap] 25)) := (Keep.refl w).alloc _
  have UI := Lib.hid (uint_n (hm.keep K1))
  have e1 : uintB n = false := decide_eq_false (by omega)
  have e2 : uintV n = 0 := if_neg (by omega)
  rw [e1, e2] at UI
  have FV := Lib.hid (intB_f (z := iv true n) (by unfold iv; simp <;> omega))
  clear hm hk e1 e2
  go_enter Try.func18, Try.ntmps18
  go_wp2_with fail
  refine Calls.mono UI.out ?_
  rintro e w1 ⟨rfl, k1⟩
  have HK := Lib.hid (K1.trans k1)
  obtain ⟨q0, q1, q2, q3, _⟩ := B1.keep k1
  clear k1 K1 B1
  go_wp2
  go_ret2
  exact ⟨by rw [FV.out.1, FV.out.2]; rfl, HK.out⟩
set_option maxHeartbeats 400000 in
theorem iint_1 {w : World} {a : Option Addr} {len cap n k : Nat} (hm : Nm w (.slice a len cap) n k) (hk : k ≤ 1048576) (h : 18446744073709551616 ≤ n) : Calls Try.prog 18 #[.agg #[.bool false, .slice a len cap]] w (IntPost (iv false n) w) := by
  have B1 := RBox.new w false a len cap
  have K1 : Keep w (w.alloc (.cells #[.bool false, .slice a len cap] 25)) := (Keep.refl w).alloc _
  have UI := Lib.hid (uint_n (hm.keep K1))
  have e1 : uintB n = false := decide_eq_false (by omega)
  have e2 : uintV n = 0 := if_neg (by omega)
  rw [e1, e2] at UI
  have FV := Lib.hid (intB_f (z := iv false n) (by unfold iv; simp <;> omega))
  clear hm hk e1 e2
  go_enter Try.func18, Try.ntmps18
  go_wp2_with fail
  refine Calls.mono UI.out ?_
  rintro e w1 ⟨rfl, k1⟩
  have HK := Lib.hid (K1.trans k1)
  obtain ⟨q0, q1, q2, q3, _⟩ := B1.keep k1
  clear k1 K1 B1
  go_wp2
  go_ret2
  exact ⟨by rw [FV.out.1, FV.out.2]; rfl, HK.out⟩
set_option maxHeartbeats 400000 in
theorem iint_2 {w : World} {a : Option Addr} {len cap n k : Nat} (hm : Nm w (.slice a len cap) n k) (hk : k ≤ 1048576) (h0 : n < 18446744073709551616) (h : n ≤ 9223372036854775808) : Calls Try.prog 18 #[.agg #[.bool true, .slice a len cap]] w (IntPost (iv true n) w) := by
  have B1 := RBox.new w true a len cap
  have K1 : Keep w (w.alloc (.cells #[.bool true, .slice a len cap] 25)) := (Keep.refl w).alloc _
  have UI := Lib.hid (uint_n (hm.keep K1))
  have e1 : uintB n = true := decide_eq_true (by omega)
  have e2 : uintV n = n := if_pos (by omega)
  rw [e1, e2] at UI
  have FV := Lib.hid (show intB (iv true n) = true ∧ intV (iv true n) = -(n : Int) from intB_t (z := iv true n) (by unfold iv; simp <;> omega) (by unfold iv; simp <;> omega))
  have hd604 : decide ((n : Int) ≤ 9223372036854775808) = true := by simp; omega
  have e3 := neg_wrap n h
  clear hm hk e1 e2
  go_enter Try.func18, Try.ntmps18
  go_wp2_with fail
  refine Calls.mono UI.out ?_
  rintro e w1 ⟨rfl, k1⟩
  have HK := Lib.hid (K1.trans k1)
  obtain ⟨q0, q1, q2, q3, _⟩ := B1.keep k1
  clear k1 K1 B1
  go_wp2
  go_ret2
  exact ⟨by rw [FV.out.1, FV.out.2]; rfl, HK.out⟩
set_option maxHeartbeats 400000 in
theorem iint_3 {w : World} {a : Option Addr} {len cap n k : Nat} (hm : Nm w (.slice a len cap) n k) (hk : k ≤ 1048576) (h0 : n < 18446744073709551616) (h : ¬ n ≤ 9223372036854775808) : Calls Try.prog 18 #[.agg #[.bool true, .slice a len cap]] w (IntPost (iv true n) w) := by
  have B1 := RBox.new w true a len cap
  have K1 : Keep w (w.alloc (.cells #[.bool true, .slice a len cap] 25)) := (Keep.refl w).alloc _
  have UI := Lib.hid (uint_n (hm.keep K1))
  have e1 : uintB n = true := decide_eq_true (by omega)
  have e2 : uintV n = n := if_pos (by omega)
  rw [e1, e2] at UI
  have FV := Lib.hid (intB_f (z := iv true n) (by unfold iv; simp <;> omega))
  have hd604 : decide ((n : Int) ≤ 9223372036854775808) = false := by simp; omega
  clear hm hk e1 e2
  go_enter Try.func18, Try.ntmps18
  go_wp2_with fail
  refine Calls.mono UI.out ?_
  rintro e w1 ⟨rfl, k1⟩
  have HK := Lib.hid (K1.trans k1)
  obtain ⟨q0, q1, q2, q3, _⟩ := B1.keep k1
  clear k1 K1 B1
  go_wp2
  go_ret2
  exact ⟨by rw [FV.out.1, FV.out.2]; rfl, HK.out⟩
set_option maxHeartbeats 400000 in
theorem iint_4 {w : World} {a : Option Addr} {len cap n k : Nat} (hm : Nm w (.slice a len cap) n k) (hk : k ≤ 1048576) (h0 : n < 18446744073709551616) (h : n < 9223372036854775808) : Calls Try.prog 18 #[.agg #[.bool false, .slice a len cap]] w (IntPost (iv false n) w) := by
  have B1 := RBox.new w false a len cap
  have K1 : Keep w (w.alloc (.cells #[.bool false, .slice a len cap] 25)) := (Keep.refl w).alloc _
  have UI := Lib.hid (uint_n (hm.keep K1))
  have e1 : uintB n = true := decide_eq_true (by omega)
  have e2 : uintV n = n := if_pos (by omega)
  rw [e1, e2] at UI
  have FV := Lib.hid (show intB (iv false n) = true ∧ intV (iv false n) = (n : Int) from intB_t (z := iv false n) (by unfold iv; simp <;> omega) (by unfold iv; simp <;> omega))
  have hd989 : decide ((n : Int) < 9223372036854775808) = true := by simp; omega
  have e3 := pos_wrap n h
  clear hm hk e1 e2
  go_enter Try.func18, Try.ntmps18
  go_wp2_with fail
  refine Calls.mono UI.out ?_
  rintro e w1 ⟨rfl, k1⟩
  have HK := Lib.hid (K1.trans k1)
  obtain ⟨q0, q1, q2, q3, _⟩ := B1.keep k1
  clear k1 K1 B1
  go_wp2
  go_ret2
  exact ⟨by rw [FV.out.1, FV.out.2]; rfl, HK.out⟩
set_option maxHeartbeats 400000 in
theorem iint_5 {w : World} {a : Option Addr} {len cap n k : Nat} (hm : Nm w (.slice a len cap) n k) (hk : k ≤ 1048576) (h0 : n < 18446744073709551616) (h : ¬ n < 9223372036854775808) : Calls Try.prog 18 #[.agg #[.bool false, .slice a len cap]] w (IntPost (iv false n) w) := by
  have B1 := RBox.new w false a len cap
  have K1 : Keep w (w.alloc (.cells #[.bool false, .slice a len cap] 25)) := (Keep.refl w).alloc _
  have UI := Lib.hid (uint_n (hm.keep K1))
  have e1 : uintB n = true := decide_eq_true (by omega)
  have e2 : uintV n = n := if_pos (by omega)
  rw [e1, e2] at UI
  have FV := Lib.hid (intB_f (z := iv false n) (by unfold iv; simp <;> omega))
  have hd989 : decide ((n : Int) < 9223372036854775808) = false := by simp; omega
  clear hm hk e1 e2
  go_enter Try.func18, Try.ntmps18
  go_wp2_with fail
  refine Calls.mono UI.out ?_
  rintro e w1 ⟨rfl, k1⟩
  have HK := Lib.hid (K1.trans k1)
  obtain ⟨q0, q1, q2, q3, _⟩ := B1.keep k1
  clear k1 K1 B1
  go_wp2
  go_ret2
  exact ⟨by rw [FV.out.1, FV.out.2]; rfl, HK.out⟩
set_option maxHeartbeats 400000 in
theorem riint_0 {w : World} {a : Option Addr} {len cap n k : Nat} (hm : Nm w (.slice a len cap) n k) (hk : k ≤ 1048576) (h : 18446744073709551616 ≤ n) : Calls Try.prog 20 #[.agg #[.bool true, .slice a len cap]] w (IntPost (iv true n) w) := by
  have B1 := RBox.new w true a len cap
  have K1 : Keep w (w.alloc (.cells #[.bool true, .slice a len cap] 25)) := (Keep.refl w).alloc _
  have UI := Lib.hid (ruint_n (hm.keep K1) hk)
  have e1 : uintB n = false := decide_eq_false (by omega)
  have e2 : uintV n = 0 := if_neg (by omega)
  rw [e1, e2] at UI
  have FV := Lib.hid (intB_f (z := iv true n) (by unfold iv; simp <;> omega))
  clear hm hk e1 e2
  go_enter Try.func20, Try.ntmps20
  go_wp2_with fail
  refine Calls.mono UI.out ?_
  rintro e w1 ⟨rfl, k1⟩
  have HK := Lib.hid (K1.trans k1)
  obtain ⟨q0, q1, q2, q3, _⟩ := B1.keep k1
  clear k1 K1 B1
  go_wp2
  go_ret2
  exact ⟨by rw [FV.out.1, FV.out.2]; rfl, HK.out⟩
set_option maxHeartbeats 400000 in
theorem riint_1 {w : World} {a : Option Addr} {len cap n k : Nat} (hm : Nm w (.slice a len cap) n k) (hk : k ≤ 1048576) (h : 18446744073709551616 ≤ n) : Calls Try.prog 20 #[.agg #[.bool false, .slice a len cap]] w (IntPost (iv false n) w) := by
  have B1 := RBox.new w false a len cap
  have K1 : Keep w (w.alloc (.cells #[.bool false, .slice a len cap] 25)) := (Keep.refl w).alloc _
  have UI := Lib.hid (ruint_n (hm.keep K1) hk)
  have e1 : uintB n = false := decide_eq_false (by omega)
  have e2 : uintV n = 0 := if_neg (by omega)
  rw [e1, e2] at UI
  have FV := Lib.hid (intB_f (z := iv false n) (by unfold iv; simp <;> omega))
  clear hm hk e1 e2
  go_enter Try.func20, Try.ntmps20
  go_wp2_with fail
  refine Calls.mono UI.out ?_
  rintro e w1 ⟨rfl, k1⟩
  have HK := Lib.hid (K1.trans k1)
  obtain ⟨q0, q1, q2, q3, _⟩ := B1.keep k1
  clear k1 K1 B1
  go_wp2
  go_ret2
  exact ⟨by rw [FV.out.1, FV.out.2]; rfl, HK.out⟩
set_option maxHeartbeats 400000 in
theorem riint_2 {w : World} {a : Option Addr} {len cap n k : Nat} (hm : Nm w (.slice a len cap) n k) (hk : k ≤ 1048576) (h0 : n < 18446744073709551616) (h : n < 9223372036854775808) : Calls Try.prog 20 #[.agg #[.bool true, .slice a len cap]] w (IntPost (iv true n) w) := by
  have B1 := RBox.new w true a len cap
  have K1 : Keep w (w.alloc (.cells #[.bool true, .slice a len cap] 25)) := (Keep.refl w).alloc _
  have UI := Lib.hid (ruint_n (hm.keep K1) hk)
  have e1 : uintB n = true := decide_eq_true (by omega)
  have e2 : uintV n = n := if_pos (by omega)
  rw [e1, e2] at UI
  have FV := Lib.hid (show intB (iv true n) = true ∧ intV (iv true n) = -(n : Int) from intB_t (z := iv true n) (by unfold iv; simp <;> omega) (by unfold iv; simp <;> omega))
  have hd340 : decide (9223372036854775808 < (n : Int)) = false := by simp; omega
  have e4 : ((n : Int) == 9223372036854775808) = false := by simp; omega
  have e3 := neg_wrap n (by omega)
  clear hm hk e1 e2
  go_enter Try.func20, Try.ntmps20
  go_wp2_with fail
  refine Calls.mono UI.out ?_
  rintro e w1 ⟨rfl, k1⟩
  have HK := Lib.hid (K1.trans k1)
  obtain ⟨q0, q1, q2, q3, _⟩ := B1.keep k1
  clear k1 K1 B1
  go_wp2
  go_ret2
  exact ⟨by rw [FV.out.1, FV.out.2]; rfl, HK.out⟩
set_option maxHeartbeats 400000 in
theorem riint_3 {w : World} {a : Option Addr} {len cap n k : Nat} (hm : Nm w (.slice a len cap) n k) (hk : k ≤ 1048576) (h0 : n < 18446744073709551616) (h : n = 9223372036854775808) : Calls Try.prog 20 #[.agg #[.bool true, .slice a len cap]] w (IntPost (iv true n) w) := by
  have B1 := RBox.new w true a len cap
  have K1 : Keep w (w.alloc (.cells #[.bool true, .slice a len cap] 25)) := (Keep.refl w).alloc _
  have UI := Lib.hid (ruint_n (hm.keep K1) hk)
  have e1 : uintB n = true := decide_eq_true (by omega)
  have e2 : uintV n = n := if_pos (by omega)
  rw [e1, e2] at UI
  have FV := Lib.hid (show intB (iv true n) = true ∧ intV (iv true n) = -9223372036854775808 from by subst h; decide)
  have hd340 : decide (9223372036854775808 < (n : Int)) = false := by simp; omega
  have e4 : ((n : Int) == 9223372036854775808) = true := by simp; omega
  have E3 : Hid (wrap64 (IntKind.u64.wrap (-9223372036854775808)) = -9223372036854775808) := Lib.hid (by simp [wrap64, IntKind.wrap, IntKind.bits, IntKind.signed])
  clear hm hk e1 e2
  go_enter Try.func20, Try.ntmps20
  go_wp2_with fail
  refine Calls.mono UI.out ?_
  rintro e w1 ⟨rfl, k1⟩
  have HK := Lib.hid (K1.trans k1)
  obtain ⟨q0, q1, q2, q3, _⟩ := B1.keep k1
  clear k1 K1 B1
  go_wp2
  go_ret2
  exact ⟨by rw [FV.out.1, FV.out.2]; exact congrArg (fun x => Ending.returned (.tuple #[.int .i64 x, .bool true])) E3.out, HK.out⟩
set_option maxHeartbeats 400000 in
theorem riint_4 {w : World} {a : Option Addr} {len cap n k : Nat} (hm : Nm w (.slice a len cap) n k) (hk : k ≤ 1048576) (h0 : n < 18446744073709551616) (h : 9223372036854775808 < n) : Calls Try.prog 20 #[.agg #[.bool true, .slice a len cap]] w (IntPost (iv true n) w) := by
  have B1 := RBox.new w true a len cap
  have K1 : Keep w (w.alloc (.cells #[.bool true, .slice a len cap] 25)) := (Keep.refl w).alloc _
  have UI := Lib.hid (ruint_n (hm.keep K1) hk)
  have e1 : uintB n = true := decide_eq_true (by omega)
  have e2 : uintV n = n := if_pos (by omega)
  rw [e1, e2] at UI
  have FV := Lib.hid (intB_f (z := iv true n) (by unfold iv; simp <;> omega))
  have hd340 : decide (9223372036854775808 < (n : Int)) = true := by simp; omega
  clear hm hk e1 e2
  go_enter Try.func20, Try.ntmps20
  go_wp2_with fail
  refine Calls.mono UI.out ?_
  rintro e w1 ⟨rfl, k1⟩
  have HK := Lib.hid (K1.trans k1)
  obtain ⟨q0, q1, q2, q3, _⟩ := B1.keep k1
  clear k1 K1 B1
  go_wp2
  go_ret2
  exact ⟨by rw [FV.out.1, FV.out.2]; rfl, HK.out⟩
set_option maxHeartbeats 400000 in
theorem riint_5 {w : World} {a : Option Addr} {len cap n k : Nat} (hm : Nm w (.slice a len cap) n k) (hk : k ≤ 1048576) (h0 : n < 18446744073709551616) (h : n < 9223372036854775808) : Calls Try.prog 20 #[.agg #[.bool false, .slice a len cap]] w (IntPost (iv false n) w) := by
  have B1 := RBox.new w false a len cap
  have K1 : Keep w (w.alloc (.cells #[.bool false, .slice a len cap] 25)) := (Keep.refl w).alloc _
  have UI := Lib.hid (ruint_n (hm.keep K1) hk)
  have e1 : uintB n = true := decide_eq_true (by omega)
  have e2 : uintV n = n := if_pos (by omega)
  rw [e1, e2] at UI
  have FV := Lib.hid (show intB (iv false n) = true ∧ intV (iv false n) = (n : Int) from intB_t (z := iv false n) (by unfold iv; simp <;> omega) (by unfold iv; simp <;> omega))
  have hd340 : decide (9223372036854775808 < (n : Int)) = false := by simp; omega
  have e4 : ((n : Int) == 9223372036854775808) = false := by simp; omega
  have e3 := pos_wrap n (by omega)
  clear hm hk e1 e2
  go_enter Try.func20, Try.ntmps20
  go_wp2_with fail
  refine Calls.mono UI.out ?_
  rintro e w1 ⟨rfl, k1⟩
  have HK := Lib.hid (K1.trans k1)
  obtain ⟨q0, q1, q2, q3, _⟩ := B1.keep k1
  clear k1 K1 B1
  go_wp2
  go_ret2
  exact ⟨by rw [FV.out.1, FV.out.2]; rfl, HK.out⟩
set_option maxHeartbeats 400000 in
theorem riint_6 {w : World} {a : Option Addr} {len cap n k : Nat} (hm : Nm w (.slice a len cap) n k) (hk : k ≤ 1048576) (h0 : n < 18446744073709551616) (h : n = 9223372036854775808) : Calls Try.prog 20 #[.agg #[.bool false, .slice a len cap]] w (IntPost (iv false n) w) := by
  have B1 := RBox.new w false a len cap
  have K1 : Keep w (w.alloc (.cells #[.bool false, .slice a len cap] 25)) := (Keep.refl w).alloc _
  have UI := Lib.hid (ruint_n (hm.keep K1) hk)
  have e1 : uintB n = true := decide_eq_true (by omega)
  have e2 : uintV n = n := if_pos (by omega)
  rw [e1, e2] at UI
  have FV := Lib.hid (intB_f (z := iv false n) (by unfold iv; simp <;> omega))
  have hd340 : decide (9223372036854775808 < (n : Int)) = false := by simp; omega
  have e4 : ((n : Int) == 9223372036854775808) = true := by simp; omega
  clear hm hk e1 e2
  go_enter Try.func20, Try.ntmps20
  go_wp2_with fail
  refine Calls.mono UI.out ?_
  rintro e w1 ⟨rfl, k1⟩
  have HK := Lib.hid (K1.trans k1)
  obtain ⟨q0, q1, q2, q3, _⟩ := B1.keep k1
  clear k1 K1 B1
  go_wp2
  go_ret2
  exact ⟨by rw [FV.out.1, FV.out.2]; rfl, HK.out⟩
set_option maxHeartbeats 400000 in
theorem riint_7 {w : World} {a : Option Addr} {len cap n k : Nat} (hm : Nm w (.slice a len cap) n k) (hk : k ≤ 1048576) (h0 : n < 18446744073709551616) (h : 9223372036854775808 < n) : Calls Try.prog 20 #[.agg #[.bool false, .slice a len cap]] w (IntPost (iv false n) w) := by
  have B1 := RBox.new w false a len cap
  have K1 : Keep w (w.alloc (.cells #[.bool false, .slice a len cap] 25)) := (Keep.refl w).alloc _
  have UI := Lib.hid (ruint_n (hm.keep K1) hk)
  have e1 : uintB n = true := decide_eq_true (by omega)
  have e2 : uintV n = n := if_pos (by omega)
  rw [e1, e2] at UI
  have FV := Lib.hid (intB_f (z := iv false n) (by unfold iv; simp <;> omega))
  have hd340 : decide (9223372036854775808 < (n : Int)) = true := by simp; omega
  clear hm hk e1 e2
  go_enter Try.func20, Try.ntmps20
  go_wp2_with fail
  refine Calls.mono UI.out ?_
  rintro e w1 ⟨rfl, k1⟩
  have HK := Lib.hid (K1.trans k1)
  obtain ⟨q0, q1, q2, q3, _⟩ := B1.keep k1
  clear k1 K1 B1
  go_wp2
  go_ret2
  exact ⟨by rw [FV.out.1, FV.out.2]; rfl, HK.out⟩
theorem iint_c {w : World} {v : Value} {s : Bool} {n k : Nat} (h : Im w v s n k) (hk : k ≤ 1048576) : Calls Try.prog 18 #[v] w (IntPost (iv s n) w) := by
  obtain ⟨m, rfl, hm⟩ := h
  obtain ⟨a, len, cap, l, rfl, _, _, _⟩ := hm.form
  by_cases h0 : n < 18446744073709551616
  · cases s
    · by_cases h1 : n < 9223372036854775808
      · exact iint_4 hm hk h0 h1
      · exact iint_5 hm hk h0 h1
    · by_cases h1 : n ≤ 9223372036854775808
      · exact iint_2 hm hk h0 h1
      · exact iint_3 hm hk h0 h1
  · cases s
    · exact iint_1 hm hk (by omega)
    · exact iint_0 hm hk (by omega)
theorem riint_c {w : World} {v : Value} {s : Bool} {n k : Nat} (h : Im w v s n k) (hk : k ≤ 1048576) : Calls Try.prog 20 #[v] w (IntPost (iv s n) w) := by
  obtain ⟨m, rfl, hm⟩ := h
  obtain ⟨a, len, cap, l, rfl, _, _, _⟩ := hm.form
  by_cases h0 : n < 18446744073709551616
  · cases s
    · by_cases h1 : n < 9223372036854775808
      · exact riint_5 hm hk h0 h1
      · by_cases h2 : n = 9223372036854775808
        · exact riint_6 hm hk h0 h2
        · exact riint_7 hm hk h0 (by omega)
    · by_cases h1 : n < 9223372036854775808
      · exact riint_2 hm hk h0 h1
      · by_cases h2 : n = 9223372036854775808
        · exact riint_3 hm hk h0 h2
        · exact riint_4 hm hk h0 (by omega)
  · cases s
    · exact riint_1 hm hk (by omega)
    · exact riint_0 hm hk (by omega)
end Go.Proofs.Ytjkfnnoakjdgmaa
