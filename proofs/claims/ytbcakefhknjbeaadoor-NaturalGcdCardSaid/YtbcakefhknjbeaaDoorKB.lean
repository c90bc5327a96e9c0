/- Walks of layer 1: the law of Gcd. -/
import Derived.Test.YtbcakefhknjbeaaDoorKA
namespace Go.Proofs.YtbcakefhknjbeaaDoor
open Go.RowKit
set_option linter.unusedVariables false
theorem lt_of_nv {l : List Nat} (h : Lim l) {k : Nat} (hk : l.length ≤ k) : nv l < BB ^ k := Nat.lt_of_lt_of_le (nv_lt h) (Nat.pow_le_pow_right BB_pos hk)
theorem gcd_bound {A B k : Nat} (h : A < BB ^ k) (h' : B < BB ^ k) : Nat.gcd A B < BB ^ k := by
  by_cases h0 : A = 0
  · subst h0; rw [Nat.gcd_zero_left]; exact h'
  · exact Nat.lt_of_le_of_lt (Nat.gcd_le_left B (Nat.pos_of_ne_zero h0)) h
set_option maxHeartbeats 1000000 in
theorem gcd_law_b0 {w : World} {a a' : Option Addr} {n c n' c' : Nat} {l l' : List Nat} (ha : Rd w a n c l) (hb : Rd w a' n' c' l') (hT : Tab w) (X : Int) (hX0 : 0 ≤ X) (hX1 : X < 4294967296) (h1 : 3 < n) : Calls Tryd.prog 3 #[.slice a n c, .slice a' n' c', .int .u32 X] w (BPost true w) := by
  have q1 := ha.le_cap
  have q2 := ha.cap_le
  have q3 := hb.le_cap
  have q4 := hb.cap_le
  have d1 : decide (3 < (n : Int)) = true := decide_eq_true (by omega)
  have T_0 := Lib.hid hT
  have KW_0 := Lib.hid (Keep.refl w)
  clear ha hb hT
  go_enter Tryd.func3, Tryd.ntmps3
  go_wp2_with fail
  refine Calls.mono (awake1_c _ T_0.out) ?_
  rintro e w1 ⟨rfl, k1⟩
  have KW_1 := Lib.hid (show Keep w w1 from k1)
  clear k1
  go_wp2_with fail
  go_ret
  exact ⟨rfl, KW_1.out⟩
set_option maxHeartbeats 1000000 in
theorem gcd_law_b1 {w : World} {a a' : Option Addr} {n c n' c' : Nat} {l l' : List Nat} (ha : Rd w a n c l) (hb : Rd w a' n' c' l') (hT : Tab w) (X : Int) (hX0 : 0 ≤ X) (hX1 : X < 4294967296) (h1 : n ≤ 3) (h2 : 3 < n') : Calls Tryd.prog 3 #[.slice a n c, .slice a' n' c', .int .u32 X] w (BPost true w) := by
  have q1 := ha.le_cap
  have q2 := ha.cap_le
  have q3 := hb.le_cap
  have q4 := hb.cap_le
  have d1 : decide (3 < (n : Int)) = false := decide_eq_false (by omega)
  have d2 : decide (3 < (n' : Int)) = true := decide_eq_true (by omega)
  have T_0 := Lib.hid hT
  have KW_0 := Lib.hid (Keep.refl w)
  clear ha hb hT
  go_enter Tryd.func3, Tryd.ntmps3
  go_wp2_with fail
  refine Calls.mono (awake1_c _ T_0.out) ?_
  rintro e w1 ⟨rfl, k1⟩
  have KW_1 := Lib.hid (show Keep w w1 from k1)
  clear k1
  go_wp2_with fail
  go_ret
  exact ⟨rfl, KW_1.out⟩
set_option maxHeartbeats 2000000 in
theorem gcd_law_s {w : World} {a a' : Option Addr} {n c n' c' : Nat} {l l' : List Nat} (ha : Rd w a n c l) (hb : Rd w a' n' c' l') (hT : Tab w) (X : Int) (hX0 : 0 ≤ X) (hX1 : X < 4294967296) (h1 : n ≤ 3) (h2 : n' ≤ 3) : Calls Tryd.prog 3 #[.slice a n c, .slice a' n' c', .int .u32 X] w (BPost true w) := by
  have q1 := ha.le_cap
  have q2 := ha.cap_le
  have q3 := hb.le_cap
  have q4 := hb.cap_le
  have d1 : decide (3 < (n : Int)) = false := decide_eq_false (by omega)
  have d2 : decide (3 < (n' : Int)) = false := decide_eq_false (by omega)
  have e1 := ha.len_eq
  have e2 := hb.len_eq
  have LA_0 := Lib.hid (show Lm w (.slice a n c) l from ⟨_, _, _, rfl, ha⟩)
  have LB_0 := Lib.hid (show Lm w (.slice a' n' c') l' from ⟨_, _, _, rfl, hb⟩)
  have CA := Lib.hid (fun w1 (h : Lm w1 (.slice a n c) l) => copied_n h (by omega))
  have CB := Lib.hid (fun w1 (h : Lm w1 (.slice a' n' c') l') => copied_n h (by omega))
  have G1 := Lib.hid (fun w1 u v (h : Lm w1 u l) (h' : Lm w1 v l') (hT1 : Tab w1) => gcd_n (k := 3) (j := 3) ⟨l, h, rfl, by omega⟩ ⟨l', h', rfl, by omega⟩ (by omega) (by omega) hT1)
  have G2 := Lib.hid (fun w1 (h : Lm w1 (.slice a n c) l) (h' : Lm w1 (.slice a' n' c') l') => rgcd_c (k := 3) ⟨l, h, rfl, by omega⟩ ⟨l', h', rfl, by omega⟩ (by omega))
  have G3 := Lib.hid (fun w1 (h : Lm w1 (.slice a n c) l) (h' : Lm w1 (.slice a' n' c') l') (hT1 : Tab w1) => gcd_n (k := 3) (j := 3) ⟨l', h', rfl, by omega⟩ ⟨l, h, rfl, by omega⟩ (by omega) (by omega) hT1)
  rw [Nat.gcd_comm (nv l') (nv l)] at G3
  obtain ⟨x, hx⟩ : ∃ x : Nat, X = x := ⟨X.toNat, by omega⟩
  have hxB : x < BB := by rw [BB_eq]; omega
  have HX := Lib.hid hx
  have RM := Lib.hid (fun w1 a0 (h : Rd w1 a0 1 1 [x]) => rmake_n (n := x) (k := 1) (h.toNm (nv_one x) (by simp)) (by omega))
  have bA : nv l < BB ^ 3 := lt_of_nv ha.lim (by omega)
  have bB : nv l' < BB ^ 3 := lt_of_nv hb.lim (by omega)
  have bx : x < BB ^ 1 := by rw [Nat.pow_one]; exact hxB
  have bG : Nat.gcd (nv l) (nv l') < BB ^ 3 := gcd_bound bA bB
  have M1 := Lib.hid (fun w1 v (h : Lm w1 (.slice a n c) l) (h' : Cn w1 v x) => rmul_n (k := 3) (j := 1) ⟨l, h, rfl, by omega⟩ (h'.nm bx) (by omega))
  have M2 := Lib.hid (fun w1 v (h : Lm w1 (.slice a' n' c') l') (h' : Cn w1 v x) => rmul_n (k := 3) (j := 1) ⟨l', h, rfl, by omega⟩ (h'.nm bx) (by omega))
  have M3 := Lib.hid (fun w1 u v (h : Cn w1 u (Nat.gcd (nv l) (nv l'))) (h' : Cn w1 v x) => rmul_n (k := 3) (j := 1) (h.nm bG) (h'.nm bx) (by omega))
  have G4 := Lib.hid (fun w1 u v (h : Cn w1 u (nv l * x)) (h' : Cn w1 v (nv l' * x)) (hT1 : Tab w1) => gcd_n (k := 4) (j := 4) (h.nm (lt_mul_pow bA bx)) (h'.nm (lt_mul_pow bB bx)) (by omega) (by omega) hT1)
  rw [Nat.gcd_mul_right] at G4
  obtain ⟨G, hG⟩ : ∃ G, Nat.gcd (nv l) (nv l') = G := ⟨_, rfl⟩
  rw [hG] at G1 G2 G3 G4 M3
  obtain ⟨P, hP⟩ : ∃ P, nv l * x = P := ⟨_, rfl⟩
  obtain ⟨Q, hQ⟩ : ∃ P, nv l' * x = P := ⟨_, rfl⟩
  obtain ⟨R, hR⟩ : ∃ P, G * x = P := ⟨_, rfl⟩
  rw [hP] at M1 G4
  rw [hQ] at M2 G4
  rw [hR] at M3 G4
  have HB := Lib.hid hxB
  have T_0 := Lib.hid hT
  have KW_0 := Lib.hid (Keep.refl w)
  clear ha hb hT hG hP hQ hR hx hxB bA bB bx bG e1 e2 h1 h2
  go_enter Tryd.func3, Tryd.ntmps3
  go_wp2_with fail
  refine Calls.mono (awake1_c _ T_0.out) ?_
  rintro e w1 ⟨rfl, k1⟩
  have k1' : Keep w w1 := k1
  clear k1
  have T_1 := Lib.hid (T_0.out.keep k1')
  have LA_1 := Lib.hid (LA_0.out.keep k1')
  have LB_1 := Lib.hid (LB_0.out.keep k1')
  have KW_1 := Lib.hid (KW_0.out.trans k1')
  clear  T_0 LA_0 LB_0 KW_0
  clear k1'
  go_wp2_with fail
  refine Calls.mono (CA.out _ LA_1.out) ?_
  rintro e w2 ⟨u1, rfl, hU, k2⟩
  have T_2 := Lib.hid (T_1.out.keep k2)
  have LA_2 := Lib.hid (LA_1.out.keep k2)
  have LB_2 := Lib.hid (LB_1.out.keep k2)
  have U_2 := Lib.hid hU
  have KW_2 := Lib.hid (KW_1.out.trans k2)
  clear k2 T_1 LA_1 LB_1 hU KW_1
  go_wp2_with fail
  refine Calls.mono (CB.out _ LB_2.out) ?_
  rintro e w3 ⟨u2, rfl, hV, k3⟩
  have T_3 := Lib.hid (T_2.out.keep k3)
  have LA_3 := Lib.hid (LA_2.out.keep k3)
  have LB_3 := Lib.hid (LB_2.out.keep k3)
  have U_3 := Lib.hid (U_2.out.keep k3)
  have V_3 := Lib.hid hV
  have KW_3 := Lib.hid (KW_2.out.trans k3)
  clear k3 T_2 LA_2 LB_2 U_2 hV KW_2
  go_wp2_with fail
  refine Calls.mono (G1.out _ _ _ U_3.out V_3.out T_3.out) ?_
  rintro e w4 ⟨u3, rfl, hD, k4⟩
  have T_4 := Lib.hid (T_3.out.keep k4)
  have LA_4 := Lib.hid (LA_3.out.keep k4)
  have LB_4 := Lib.hid (LB_3.out.keep k4)
  have D_4 := Lib.hid hD
  have KW_4 := Lib.hid (KW_3.out.trans k4)
  clear k4 U_3 V_3 T_3 LA_3 LB_3 hD KW_3
  go_wp2_with fail
  refine Calls.mono (G2.out _ LA_4.out LB_4.out) ?_
  rintro e w5 ⟨u4, rfl, hE, k5⟩
  have T_5 := Lib.hid (T_4.out.keep k5)
  have LA_5 := Lib.hid (LA_4.out.keep k5)
  have LB_5 := Lib.hid (LB_4.out.keep k5)
  have D_5 := Lib.hid (D_4.out.keep k5)
  have E_5 := Lib.hid hE
  have KW_5 := Lib.hid (KW_4.out.trans k5)
  clear k5 T_4 LA_4 LB_4 D_4 hE KW_4
  go_wp2_with fail
  refine Calls.mono (same_t D_5.out E_5.out rfl) ?_
  rintro e w6 ⟨rfl, k6⟩
  have T_6 := Lib.hid (T_5.out.keep k6)
  have LA_6 := Lib.hid (LA_5.out.keep k6)
  have LB_6 := Lib.hid (LB_5.out.keep k6)
  have D_6 := Lib.hid (D_5.out.keep k6)
  have KW_6 := Lib.hid (KW_5.out.trans k6)
  clear k6 E_5 T_5 LA_5 LB_5 D_5 KW_5
  go_wp2_with fail
  refine Calls.mono (G3.out _ LA_6.out LB_6.out T_6.out) ?_
  rintro e w7 ⟨u5, rfl, hE, k7⟩
  have T_7 := Lib.hid (T_6.out.keep k7)
  have LA_7 := Lib.hid (LA_6.out.keep k7)
  have LB_7 := Lib.hid (LB_6.out.keep k7)
  have D_7 := Lib.hid (D_6.out.keep k7)
  have E_7 := Lib.hid hE
  have KW_7 := Lib.hid (KW_6.out.trans k7)
  clear k7 T_6 LA_6 LB_6 D_6 hE KW_6
  go_wp2_with fail
  refine Calls.mono (same_t D_7.out E_7.out rfl) ?_
  rintro e w8 ⟨rfl, k8⟩
  have T_8 := Lib.hid (T_7.out.keep k8)
  have LA_8 := Lib.hid (LA_7.out.keep k8)
  have LB_8 := Lib.hid (LB_7.out.keep k8)
  have D_8 := Lib.hid (D_7.out.keep k8)
  have KW_8 := Lib.hid (KW_7.out.trans k8)
  clear k8 E_7 T_7 LA_7 LB_7 D_7 KW_7
  go_wp2_with fail
  refine Calls.mono (RM.out _ _ ?_) ?_
  · exact Rd.one' _ x X HX.out HB.out _
  rintro e w9 ⟨u6, rfl, hF, kk⟩
  have k9 : Keep w8 w9 := (Keep.alloc (Keep.refl _) _).trans kk
  clear kk
  have T_9 := Lib.hid (T_8.out.keep k9)
  have LA_9 := Lib.hid (LA_8.out.keep k9)
  have LB_9 := Lib.hid (LB_8.out.keep k9)
  have D_9 := Lib.hid (D_8.out.keep k9)
  have F_9 := Lib.hid hF
  have KW_9 := Lib.hid (KW_8.out.trans k9)
  clear k9 T_8 LA_8 LB_8 D_8 hF KW_8
  go_wp2_with fail
  refine Calls.mono (M1.out _ _ LA_9.out F_9.out) ?_
  rintro e w10 ⟨u7, rfl, hA, k10⟩
  have T_10 := Lib.hid (T_9.out.keep k10)
  have LA_10 := Lib.hid (LA_9.out.keep k10)
  have LB_10 := Lib.hid (LB_9.out.keep k10)
  have D_10 := Lib.hid (D_9.out.keep k10)
  have F_10 := Lib.hid (F_9.out.keep k10)
  have A_10 := Lib.hid hA
  have KW_10 := Lib.hid (KW_9.out.trans k10)
  clear k10 T_9 LA_9 LB_9 D_9 F_9 hA KW_9
  go_wp2_with fail
  refine Calls.mono (M2.out _ _ LB_10.out F_10.out) ?_
  rintro e w11 ⟨u8, rfl, hB, k11⟩
  have T_11 := Lib.hid (T_10.out.keep k11)
  have LA_11 := Lib.hid (LA_10.out.keep k11)
  have LB_11 := Lib.hid (LB_10.out.keep k11)
  have D_11 := Lib.hid (D_10.out.keep k11)
  have F_11 := Lib.hid (F_10.out.keep k11)
  have A_11 := Lib.hid (A_10.out.keep k11)
  have B_11 := Lib.hid hB
  have KW_11 := Lib.hid (KW_10.out.trans k11)
  clear k11 T_10 LA_10 LB_10 D_10 F_10 A_10 hB KW_10
  go_wp2_with fail
  refine Calls.mono (G4.out _ _ _ A_11.out B_11.out T_11.out) ?_
  rintro e w12 ⟨u9, rfl, hH, k12⟩
  have T_12 := Lib.hid (T_11.out.keep k12)
  have LA_12 := Lib.hid (LA_11.out.keep k12)
  have LB_12 := Lib.hid (LB_11.out.keep k12)
  have D_12 := Lib.hid (D_11.out.keep k12)
  have F_12 := Lib.hid (F_11.out.keep k12)
  have A_12 := Lib.hid (A_11.out.keep k12)
  have B_12 := Lib.hid (B_11.out.keep k12)
  have H_12 := Lib.hid hH
  have KW_12 := Lib.hid (KW_11.out.trans k12)
  clear k12 T_11 LA_11 LB_11 D_11 F_11 A_11 B_11 hH KW_11
  go_wp2_with fail
  refine Calls.mono (M3.out _ _ _ D_12.out F_12.out) ?_
  rintro e w13 ⟨u10, rfl, hI, k13⟩
  have T_13 := Lib.hid (T_12.out.keep k13)
  have LA_13 := Lib.hid (LA_12.out.keep k13)
  have LB_13 := Lib.hid (LB_12.out.keep k13)
  have D_13 := Lib.hid (D_12.out.keep k13)
  have F_13 := Lib.hid (F_12.out.keep k13)
  have A_13 := Lib.hid (A_12.out.keep k13)
  have B_13 := Lib.hid (B_12.out.keep k13)
  have H_13 := Lib.hid (H_12.out.keep k13)
  have I_13 := Lib.hid hI
  have KW_13 := Lib.hid (KW_12.out.trans k13)
  clear k13 T_12 LA_12 LB_12 D_12 F_12 A_12 B_12 H_12 hI KW_12
  go_wp2_with fail
  refine Calls.mono (same_t H_13.out I_13.out rfl) ?_
  rintro e w14 ⟨rfl, k14⟩
  have T_14 := Lib.hid (T_13.out.keep k14)
  have LA_14 := Lib.hid (LA_13.out.keep k14)
  have LB_14 := Lib.hid (LB_13.out.keep k14)
  have D_14 := Lib.hid (D_13.out.keep k14)
  have F_14 := Lib.hid (F_13.out.keep k14)
  have A_14 := Lib.hid (A_13.out.keep k14)
  have B_14 := Lib.hid (B_13.out.keep k14)
  have H_14 := Lib.hid (H_13.out.keep k14)
  have I_14 := Lib.hid (I_13.out.keep k14)
  have KW_14 := Lib.hid (KW_13.out.trans k14)
  clear k14 T_13 LA_13 LB_13 D_13 F_13 A_13 B_13 H_13 I_13 KW_13
  go_wp2_with fail
  go_ret
  exact ⟨rfl, KW_14.out⟩
theorem gcd_law_c {w : World} {a a' : Option Addr} {n c n' c' : Nat} {l l' : List Nat} (ha : Rd w a n c l) (hb : Rd w a' n' c' l') (hT : Tab w) (X : Int) (hX0 : 0 ≤ X) (hX1 : X < 4294967296) : Calls Tryd.prog 3 #[.slice a n c, .slice a' n' c', .int .u32 X] w (BPost true w) := by
  by_cases h1 : n ≤ 3
  · by_cases h2 : n' ≤ 3
    · exact gcd_law_s ha hb hT X hX0 hX1 h1 h2
    · exact gcd_law_b1 ha hb hT X hX0 hX1 h1 (by omega)
  · exact gcd_law_b0 ha hb hT X hX0 hX1 (by omega)
end Go.Proofs.YtbcakefhknjbeaaDoor
