/- The laws of layer 1, walked: shifts. -/
import Derived.Test.YtgoiechhhnhgaaaDoorI5
import Derived.Test.YtgoiechhhnhgaaaDoorJ1
namespace Go.Proofs.YtgoiechhhnhgaaaDoor
open Go.RowKit
set_option linter.unusedVariables false
theorem shl_e {w : World} {v : Value} {n k : Nat} (i : Int) (N : Nat) (E : Int) (h : Nm w v n k) (hk : k ≤ 1048575) (hN : shlN n i = N) (hE : shE i = E) :
    Calls Tryd.prog 34 #[v, .int .i64 i] w fun e w' => ∃ x, e = .returned (.tuple #[x, .int .i64 E]) ∧ Cn w' x N ∧ Keep w w' := hN ▸ hE ▸ shl_n i h hk
theorem shr_e {w : World} {v : Value} {n k : Nat} (i : Int) (N : Nat) (E : Int) (h : Nm w v n k) (hk : k ≤ 1048575) (hN : shrN n i = N) (hE : shE i = E) :
    Calls Tryd.prog 35 #[v, .int .i64 i] w fun e w' => ∃ x, e = .returned (.tuple #[x, .int .i64 E]) ∧ Cn w' x N ∧ Keep w w' := hN ▸ hE ▸ shr_n i h hk
theorem rShl_e {w : World} {v : Value} {n k : Nat} (i : Int) (N : Nat) (E : Int) (h : Nm w v n k) (hk : k ≤ 524288) (hN : shlN n i = N) (hE : shE i = E) :
    Calls Tryd.prog 36 #[v, .int .i64 i] w fun e w' => ∃ x, e = .returned (.tuple #[x, .int .i64 E]) ∧ Cn w' x N ∧ Keep w w' := by
  obtain ⟨l, ⟨a, len, cap, rfl, hr⟩, rfl, hl⟩ := h
  subst hN; subst hE
  exact (rShl_c _ _ _ _ i w hr (by rw [← hr.len_eq]; omega)).mono fun _ _ h => h.cn
theorem rShr_e {w : World} {v : Value} {n k : Nat} (i : Int) (N : Nat) (E : Int) (h : Nm w v n k) (hk : k ≤ 524288) (hN : shrN n i = N) (hE : shE i = E) :
    Calls Tryd.prog 37 #[v, .int .i64 i] w fun e w' => ∃ x, e = .returned (.tuple #[x, .int .i64 E]) ∧ Cn w' x N ∧ Keep w w' := by
  obtain ⟨l, ⟨a, len, cap, rfl, hr⟩, rfl, hl⟩ := h
  subst hN; subst hE
  exact (rShr_c _ _ _ _ i w hr (by rw [← hr.len_eq]; omega)).mono fun _ _ h => h.cn
theorem two_pow_lt {k j : Nat} (h : k < 32 * j) : 2 ^ k < BB ^ j := by
  rw [BB_pow]
  exact Nat.pow_lt_pow_right (by decide) h
theorem Lm.one {w : World} (x : Nat) (X : Int) (hX : X = x) (hx : x < BB) (T : TypeId) : Lm (w.alloc (.cells #[.int .u32 X] T)) (.slice (some ⟨w.heap.size, 0, none⟩) 1 1) [x] := ⟨_, _, _, rfl, Rd.one' w x X hX hx T⟩
set_option maxHeartbeats 800000 in
theorem law_shift_e0 (aa : Option Addr) (na pa : Nat) (k : Int) (la : List Nat) (w : World) (ha : Rd w aa na pa la) (hk1 : -9223372036854775808 ≤ k) (hk2 : k ≤ 9223372036854775807) (hT : Tab w) (sa : na ≤ 12) (hbad : k < 0) :
    Calls Tryd.prog 8 #[.slice aa na pa, .int .i64 k] w (TPost w) := by
  have ca := ha.le_cap
  have da := ha.cap_le
  have ea := ha.len_eq
  have La := Lib.hid (show Lm w (.slice aa na pa) la from ⟨_, _, _, rfl, ha⟩)
  have HEa := Lib.hid ea
  have HT := Lib.hid hT
  obtain ⟨N1, hN1⟩ : ∃ N, shlN (nv la) k = N := ⟨_, rfl⟩
  obtain ⟨N2, hN2⟩ : ∃ N, shrN (nv la) k = N := ⟨_, rfl⟩
  have hEk : shE k = 2 := if_pos (.inl hbad)
  have HN1 := Lib.hid hN1
  have HN2 := Lib.hid hN2
  have HE := Lib.hid hEk
  have hd1 : decide (300 < k) = false := decide_eq_false (by omega)
  clear ha hT ea hN1 hN2 hEk
  go_enter Tryd.func8, Tryd.ntmps8
  go_wp2_with fail
  refine Calls.mono (awake_c _ HT.out) ?_
  rintro e w1 ⟨rfl, kk1⟩
  have La_1 := Lib.hid (La.out.keep kk1)
  have KW1 : Hid (Keep w w1) := Lib.hid kk1
  clear kk1 La
  go_wp2_with fail
  refine Calls.mono (shl_e k N1 2 (La_1.out.nm (k := 12) (by rw [HEa.out]; omega)) (by omega) HN1.out HE.out) ?_
  rintro e w2 ⟨l, rfl, L, kk2⟩
  have La_2 := Lib.hid (La_1.out.keep kk2)
  have L_2 := Lib.hid L
  have KW2 := Lib.hid (KW1.out.trans kk2)
  clear kk2 La_1 L KW1
  go_wp2_with fail
  refine Calls.mono (shr_e k N2 2 (La_2.out.nm (k := 12) (by rw [HEa.out]; omega)) (by omega) HN2.out HE.out) ?_
  rintro e w3 ⟨r, rfl, R, kk3⟩
  have La_3 := Lib.hid (La_2.out.keep kk3)
  have L_3 := Lib.hid (L_2.out.keep kk3)
  have R_3 := Lib.hid R
  have KW3 := Lib.hid (KW2.out.trans kk3)
  clear kk3 La_2 L_2 R KW2
  go_wp2_with fail
  refine Calls.mono (rShl_e k N1 2 (La_3.out.nm (k := 12) (by rw [HEa.out]; omega)) (by omega) HN1.out HE.out) ?_
  rintro e w4 ⟨x, rfl, X, kk4⟩
  have La_4 := Lib.hid (La_3.out.keep kk4)
  have L_4 := Lib.hid (L_3.out.keep kk4)
  have R_4 := Lib.hid (R_3.out.keep kk4)
  have X_4 := Lib.hid X
  have KW4 := Lib.hid (KW3.out.trans kk4)
  clear kk4 La_3 L_3 R_3 X KW3
  go_wp2_with fail
  refine Calls.mono (rShr_e k N2 2 (La_4.out.nm (k := 12) (by rw [HEa.out]; omega)) (by omega) HN2.out HE.out) ?_
  rintro e w5 ⟨y, rfl, Y, kk5⟩
  have La_5 := Lib.hid (La_4.out.keep kk5)
  have L_5 := Lib.hid (L_4.out.keep kk5)
  have R_5 := Lib.hid (R_4.out.keep kk5)
  have X_5 := Lib.hid (X_4.out.keep kk5)
  have Y_5 := Lib.hid Y
  have KW5 := Lib.hid (KW4.out.trans kk5)
  clear kk5 La_4 L_4 R_4 X_4 Y KW4
  go_wp2_with fail
  refine Calls.mono (same_t L_5.out X_5.out rfl) ?_
  rintro e w6 ⟨rfl, kk6⟩
  have La_6 := Lib.hid (La_5.out.keep kk6)
  have L_6 := Lib.hid (L_5.out.keep kk6)
  have R_6 := Lib.hid (R_5.out.keep kk6)
  have Y_6 := Lib.hid (Y_5.out.keep kk6)
  have KW6 := Lib.hid (KW5.out.trans kk6)
  clear kk6 La_5 L_5 R_5 Y_5 KW5
  go_wp2_with fail
  refine Calls.mono (same_t R_6.out Y_6.out rfl) ?_
  rintro e w7 ⟨rfl, kk7⟩
  have La_7 := Lib.hid (La_6.out.keep kk7)
  have L_7 := Lib.hid (L_6.out.keep kk7)
  have KW7 := Lib.hid (KW6.out.trans kk7)
  clear kk7 La_6 L_6 KW6
  go_wp2_with fail
  go_ret
  exact ⟨rfl, KW7.out⟩
set_option maxHeartbeats 800000 in
theorem law_shift_e1 (aa : Option Addr) (na pa : Nat) (k : Int) (la : List Nat) (w : World) (ha : Rd w aa na pa la) (hk1 : -9223372036854775808 ≤ k) (hk2 : k ≤ 9223372036854775807) (hT : Tab w) (sa : na ≤ 12) (hbad : 1048576 < k) :
    Calls Tryd.prog 8 #[.slice aa na pa, .int .i64 k] w (TPost w) := by
  have ca := ha.le_cap
  have da := ha.cap_le
  have ea := ha.len_eq
  have La := Lib.hid (show Lm w (.slice aa na pa) la from ⟨_, _, _, rfl, ha⟩)
  have HEa := Lib.hid ea
  have HT := Lib.hid hT
  obtain ⟨N1, hN1⟩ : ∃ N, shlN (nv la) k = N := ⟨_, rfl⟩
  obtain ⟨N2, hN2⟩ : ∃ N, shrN (nv la) k = N := ⟨_, rfl⟩
  have hEk : shE k = 2 := if_pos (.inr hbad)
  have HN1 := Lib.hid hN1
  have HN2 := Lib.hid hN2
  have HE := Lib.hid hEk
  have hd1 : decide (300 < k) = true := decide_eq_true (by omega)
  have hd2 : decide (k ≤ 1048576) = false := decide_eq_false (by omega)
  clear ha hT ea hN1 hN2 hEk
  go_enter Tryd.func8, Tryd.ntmps8
  go_wp2_with fail
  refine Calls.mono (awake_c _ HT.out) ?_
  rintro e w1 ⟨rfl, kk1⟩
  have La_1 := Lib.hid (La.out.keep kk1)
  have KW1 : Hid (Keep w w1) := Lib.hid kk1
  clear kk1 La
  go_wp2_with fail
  refine Calls.mono (shl_e k N1 2 (La_1.out.nm (k := 12) (by rw [HEa.out]; omega)) (by omega) HN1.out HE.out) ?_
  rintro e w2 ⟨l, rfl, L, kk2⟩
  have La_2 := Lib.hid (La_1.out.keep kk2)
  have L_2 := Lib.hid L
  have KW2 := Lib.hid (KW1.out.trans kk2)
  clear kk2 La_1 L KW1
  go_wp2_with fail
  refine Calls.mono (shr_e k N2 2 (La_2.out.nm (k := 12) (by rw [HEa.out]; omega)) (by omega) HN2.out HE.out) ?_
  rintro e w3 ⟨r, rfl, R, kk3⟩
  have La_3 := Lib.hid (La_2.out.keep kk3)
  have L_3 := Lib.hid (L_2.out.keep kk3)
  have R_3 := Lib.hid R
  have KW3 := Lib.hid (KW2.out.trans kk3)
  clear kk3 La_2 L_2 R KW2
  go_wp2_with fail
  refine Calls.mono (rShl_e k N1 2 (La_3.out.nm (k := 12) (by rw [HEa.out]; omega)) (by omega) HN1.out HE.out) ?_
  rintro e w4 ⟨x, rfl, X, kk4⟩
  have La_4 := Lib.hid (La_3.out.keep kk4)
  have L_4 := Lib.hid (L_3.out.keep kk4)
  have R_4 := Lib.hid (R_3.out.keep kk4)
  have X_4 := Lib.hid X
  have KW4 := Lib.hid (KW3.out.trans kk4)
  clear kk4 La_3 L_3 R_3 X KW3
  go_wp2_with fail
  refine Calls.mono (rShr_e k N2 2 (La_4.out.nm (k := 12) (by rw [HEa.out]; omega)) (by omega) HN2.out HE.out) ?_
  rintro e w5 ⟨y, rfl, Y, kk5⟩
  have La_5 := Lib.hid (La_4.out.keep kk5)
  have L_5 := Lib.hid (L_4.out.keep kk5)
  have R_5 := Lib.hid (R_4.out.keep kk5)
  have X_5 := Lib.hid (X_4.out.keep kk5)
  have Y_5 := Lib.hid Y
  have KW5 := Lib.hid (KW4.out.trans kk5)
  clear kk5 La_4 L_4 R_4 X_4 Y KW4
  go_wp2_with fail
  refine Calls.mono (same_t L_5.out X_5.out rfl) ?_
  rintro e w6 ⟨rfl, kk6⟩
  have La_6 := Lib.hid (La_5.out.keep kk6)
  have L_6 := Lib.hid (L_5.out.keep kk6)
  have R_6 := Lib.hid (R_5.out.keep kk6)
  have Y_6 := Lib.hid (Y_5.out.keep kk6)
  have KW6 := Lib.hid (KW5.out.trans kk6)
  clear kk6 La_5 L_5 R_5 Y_5 KW5
  go_wp2_with fail
  refine Calls.mono (same_t R_6.out Y_6.out rfl) ?_
  rintro e w7 ⟨rfl, kk7⟩
  have La_7 := Lib.hid (La_6.out.keep kk7)
  have L_7 := Lib.hid (L_6.out.keep kk7)
  have KW7 := Lib.hid (KW6.out.trans kk7)
  clear kk7 La_6 L_6 KW6
  go_wp2_with fail
  go_ret
  exact ⟨rfl, KW7.out⟩
set_option maxHeartbeats 1600000 in
theorem law_shift_ok (aa : Option Addr) (na pa : Nat) (k : Int) (la : List Nat) (w : World) (ha : Rd w aa na pa la) (hk1 : -9223372036854775808 ≤ k) (hk2 : k ≤ 9223372036854775807) (hT : Tab w) (sa : na ≤ 12) (h0 : 0 ≤ k) (h3 : k ≤ 300) :
    Calls Tryd.prog 8 #[.slice aa na pa, .int .i64 k] w (TPost w) := by
  have ca := ha.le_cap
  have da := ha.cap_le
  have ea := ha.len_eq
  have La := Lib.hid (show Lm w (.slice aa na pa) la from ⟨_, _, _, rfl, ha⟩)
  have HEa := Lib.hid ea
  have HT := Lib.hid hT
  obtain ⟨n, rfl⟩ : ∃ n : Nat, k = n := ⟨k.toNat, by omega⟩
  have hn : ¬ ((n : Int) < 0 ∨ 1048576 < (n : Int)) := by omega
  have HN1 : Hid (shlN (nv la) n = nv la * 2 ^ n) := Lib.hid (by unfold shlN; rw [if_neg hn, Int.toNat_natCast])
  have HN2 : Hid (shrN (nv la) n = nv la / 2 ^ n) := Lib.hid (by unfold shrN; rw [if_neg hn, Int.toNat_natCast])
  have HN3 : Hid (shrN (nv la * 2 ^ n) n = nv la) := Lib.hid (by unfold shrN; rw [if_neg hn, Int.toNat_natCast, Nat.mul_div_cancel _ (Nat.two_pow_pos n)])
  have HN4 : Hid (shlN (nv [1]) n = 2 ^ n) := Lib.hid (by unfold shlN; rw [if_neg hn, Int.toNat_natCast, show nv [1] = 1 from by decide, Nat.one_mul])
  have HE : Hid (shE n = 0) := Lib.hid (if_neg hn)
  have PA : Hid (nv la < BB ^ 12) := Lib.hid (La.out.nm (k := 12) (by rw [HEa.out]; omega)).lt
  have P2 : Hid (2 ^ n < BB ^ 10) := Lib.hid (two_pow_lt (by omega))
  have hd1 : decide (300 < (n : Int)) = false := decide_eq_false (by omega)
  clear ha hT ea hn
  go_enter Tryd.func8, Tryd.ntmps8
  go_wp2_with fail
  refine Calls.mono (awake_c _ HT.out) ?_
  rintro e w1 ⟨rfl, kk1⟩
  have La_1 := Lib.hid (La.out.keep kk1)
  have KW1 : Hid (Keep w w1) := Lib.hid kk1
  clear kk1 La
  go_wp2_with fail
  refine Calls.mono (shl_e n _ 0 (La_1.out.nm (k := 12) (by rw [HEa.out]; omega)) (by omega) HN1.out HE.out) ?_
  rintro e w2 ⟨l, rfl, L, kk2⟩
  have La_2 := Lib.hid (La_1.out.keep kk2)
  have L_2 := Lib.hid L
  have KW2 := Lib.hid (KW1.out.trans kk2)
  clear kk2 La_1 L KW1
  go_wp2_with fail
  refine Calls.mono (shr_e n _ 0 (La_2.out.nm (k := 12) (by rw [HEa.out]; omega)) (by omega) HN2.out HE.out) ?_
  rintro e w3 ⟨r, rfl, R, kk3⟩
  have La_3 := Lib.hid (La_2.out.keep kk3)
  have L_3 := Lib.hid (L_2.out.keep kk3)
  have R_3 := Lib.hid R
  have KW3 := Lib.hid (KW2.out.trans kk3)
  clear kk3 La_2 L_2 R KW2
  go_wp2_with fail
  refine Calls.mono (rShl_e n _ 0 (La_3.out.nm (k := 12) (by rw [HEa.out]; omega)) (by omega) HN1.out HE.out) ?_
  rintro e w4 ⟨x, rfl, X, kk4⟩
  have La_4 := Lib.hid (La_3.out.keep kk4)
  have L_4 := Lib.hid (L_3.out.keep kk4)
  have R_4 := Lib.hid (R_3.out.keep kk4)
  have X_4 := Lib.hid X
  have KW4 := Lib.hid (KW3.out.trans kk4)
  clear kk4 La_3 L_3 R_3 X KW3
  go_wp2_with fail
  refine Calls.mono (rShr_e n _ 0 (La_4.out.nm (k := 12) (by rw [HEa.out]; omega)) (by omega) HN2.out HE.out) ?_
  rintro e w5 ⟨y, rfl, Y, kk5⟩
  have La_5 := Lib.hid (La_4.out.keep kk5)
  have L_5 := Lib.hid (L_4.out.keep kk5)
  have R_5 := Lib.hid (R_4.out.keep kk5)
  have X_5 := Lib.hid (X_4.out.keep kk5)
  have Y_5 := Lib.hid Y
  have KW5 := Lib.hid (KW4.out.trans kk5)
  clear kk5 La_4 L_4 R_4 X_4 Y KW4
  go_wp2_with fail
  refine Calls.mono (same_t L_5.out X_5.out rfl) ?_
  rintro e w6 ⟨rfl, kk6⟩
  have La_6 := Lib.hid (La_5.out.keep kk6)
  have L_6 := Lib.hid (L_5.out.keep kk6)
  have R_6 := Lib.hid (R_5.out.keep kk6)
  have Y_6 := Lib.hid (Y_5.out.keep kk6)
  have KW6 := Lib.hid (KW5.out.trans kk6)
  clear kk6 La_5 L_5 R_5 Y_5 KW5
  go_wp2_with fail
  refine Calls.mono (same_t R_6.out Y_6.out rfl) ?_
  rintro e w7 ⟨rfl, kk7⟩
  have La_7 := Lib.hid (La_6.out.keep kk7)
  have L_7 := Lib.hid (L_6.out.keep kk7)
  have KW7 := Lib.hid (KW6.out.trans kk7)
  clear kk7 La_6 L_6 KW6
  go_wp2_with fail
  refine Calls.mono (shr_e n _ 0 (L_7.out.nm (k := 22) (lt_mul PA.out P2.out)) (by omega) HN3.out HE.out) ?_
  rintro e w8 ⟨bk, rfl, BK, kk8⟩
  have La_8 := Lib.hid (La_7.out.keep kk8)
  have L_8 := Lib.hid (L_7.out.keep kk8)
  have BK_8 := Lib.hid BK
  have KW8 := Lib.hid (KW7.out.trans kk8)
  clear kk8 La_7 L_7 BK KW7
  go_wp2_with fail
  refine Calls.mono (shl_e (k := 1) n _ 0 ?_ (by omega) HN4.out HE.out) ?_
  · exact (Lm.one 1 1 rfl (by decide) _).nm (k := 1) (by decide)
  rintro e w9 ⟨pw, rfl, PW, kk90⟩
  have kk9 : Keep w8 w9 := ((Keep.refl _).alloc _).trans kk90
  have La_9 := Lib.hid (La_8.out.keep kk9)
  have L_9 := Lib.hid (L_8.out.keep kk9)
  have BK_9 := Lib.hid (BK_8.out.keep kk9)
  have PW_9 := Lib.hid PW
  have KW9 := Lib.hid (KW8.out.trans kk9)
  clear kk9 kk90 PW
  go_wp2_with fail
  refine Calls.mono (rmake_n (La_9.out.nm (k := 12) (by rw [HEa.out]; omega)) (by omega)) ?_
  rintro e w10 ⟨m, rfl, M, kk10⟩
  have La_10 := Lib.hid (La_9.out.keep kk10)
  have L_10 := Lib.hid (L_9.out.keep kk10)
  have BK_10 := Lib.hid (BK_9.out.keep kk10)
  have PW_10 := Lib.hid (PW_9.out.keep kk10)
  have M_10 := Lib.hid M
  have KW10 := Lib.hid (KW9.out.trans kk10)
  clear kk10 La_9 L_9 BK_9 PW_9 M KW9
  go_wp2_with fail
  refine Calls.mono (same_t BK_10.out M_10.out rfl) ?_
  rintro e w11 ⟨rfl, kk11⟩
  have La_11 := Lib.hid (La_10.out.keep kk11)
  have L_11 := Lib.hid (L_10.out.keep kk11)
  have PW_11 := Lib.hid (PW_10.out.keep kk11)
  have KW11 := Lib.hid (KW10.out.trans kk11)
  clear kk11 La_10 L_10 PW_10 KW10
  go_wp2_with fail
  refine Calls.mono (mul_n (La_11.out.nm (k := 12) (by rw [HEa.out]; omega)) (PW_11.out.nm (k := 10) P2.out) (by omega) (by omega) (by omega)) ?_
  rintro e w12 ⟨q, rfl, Q, kk12⟩
  have La_12 := Lib.hid (La_11.out.keep kk12)
  have L_12 := Lib.hid (L_11.out.keep kk12)
  have Q_12 := Lib.hid Q
  have KW12 := Lib.hid (KW11.out.trans kk12)
  clear kk12 La_11 L_11 Q KW11
  go_wp2_with fail
  refine Calls.mono (same_t L_12.out Q_12.out rfl) ?_
  rintro e w13 ⟨rfl, kk13⟩
  have La_13 := Lib.hid (La_12.out.keep kk13)
  have L_13 := Lib.hid (L_12.out.keep kk13)
  have Q_13 := Lib.hid (Q_12.out.keep kk13)
  have KW13 := Lib.hid (KW12.out.trans kk13)
  clear kk13 La_12 L_12 Q_12 KW12
  go_wp2_with fail
  go_ret
  exact ⟨rfl, KW13.out⟩
theorem law_shift (aa : Option Addr) (na pa : Nat) (k : Int) (la : List Nat) (w : World) (ha : Rd w aa na pa la) (hk1 : -9223372036854775808 ≤ k) (hk2 : k ≤ 9223372036854775807) (hT : Tab w) : Calls Tryd.prog 8 #[.slice aa na pa, .int .i64 k] w (TPost w) := by
  by_cases sa : na ≤ 12
  case neg =>
    have da := ha.cap_le
    have ca := ha.le_cap
    have HT := Lib.hid hT
    clear ha hT
    go_enter Tryd.func8, Tryd.ntmps8
    go_wp2_with fail
    refine Calls.mono (awake_c _ HT.out) ?_
    rintro e w1 ⟨rfl, k1⟩
    go_wp2_with fail
    go_ret
    exact ⟨rfl, k1⟩
  by_cases h0 : k < 0
  · exact law_shift_e0 aa na pa k la w ha hk1 hk2 hT sa h0
  by_cases h1 : 1048576 < k
  · exact law_shift_e1 aa na pa k la w ha hk1 hk2 hT sa h1
  by_cases h3 : k ≤ 300
  · exact law_shift_ok aa na pa k la w ha hk1 hk2 hT sa (by omega) h3
  · have da := ha.cap_le
    have ca := ha.le_cap
    have HT := Lib.hid hT
    have hd1 : decide (300 < k) = true := decide_eq_true (by omega)
    have hd2 : decide (k ≤ 1048576) = true := decide_eq_true (by omega)
    clear ha hT
    go_enter Tryd.func8, Tryd.ntmps8
    go_wp2_with fail
    refine Calls.mono (awake_c _ HT.out) ?_
    rintro e w1 ⟨rfl, k1⟩
    go_wp2_with fail
    go_ret
    exact ⟨rfl, k1⟩
end Go.Proofs.YtgoiechhhnhgaaaDoor
