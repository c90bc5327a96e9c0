/- The laws of layer 1, walked: products, quotients. -/
import Derived.Test.YtgoiechhhnhgaaaDoorI3
import Derived.Test.YtgoiechhhnhgaaaDoorH4
namespace Go.Proofs.YtgoiechhhnhgaaaDoor
open Go.RowKit
set_option linter.unusedVariables false
theorem lt_mul {n m k j : Nat} (h : n < BB ^ k) (h' : m < BB ^ j) : n * m < BB ^ (k + j) := by
  rw [Nat.pow_add]
  exact Nat.mul_lt_mul'' h h'
theorem rmul_n {w : World} {v u : Value} {n m k j : Nat} (h : Nm w v n k) (h' : Nm w u m j) (hk : k + j ≤ 1048575) :
    Calls Tryd.prog 33 #[v, u] w fun e w' => ∃ x, e = .returned x ∧ Cn w' x (n * m) ∧ Keep w w' := by
  obtain ⟨l, ⟨a, len, cap, rfl, hr⟩, rfl, hl⟩ := h
  obtain ⟨l', ⟨a', len', cap', rfl, hr'⟩, rfl, hl'⟩ := h'
  exact (rmul_c _ _ _ _ _ _ _ _ w hr hr' (by rw [← hr.len_eq, ← hr'.len_eq]; omega)).mono fun _ _ h => h.cn
theorem divMod_e {w : World} {v u : Value} {n m k j : Nat} (q r : Nat) (e0 : Int) (h : Nm w v n k) (h' : Nm w u m j) (hk : k ≤ 1048575) (hq : n / m = q) (hr : dmR n m = r) (he : dmE m = e0) :
    Calls Tryd.prog 38 #[v, u] w fun e w' => ∃ x y, e = .returned (.tuple #[x, y, .int .i64 e0]) ∧ Cn w' x q ∧ Cn w' y r ∧ Keep w w' := hq ▸ hr ▸ he ▸ divMod_n h h' hk
theorem divMod_z {w : World} {v u : Value} {n k j : Nat} (h : Nm w v n k) (h' : Nm w u 0 j) (hk : k ≤ 1048575) :
    Calls Tryd.prog 38 #[v, u] w fun e w' => ∃ a c a2 c2, e = .returned (.tuple #[.slice a 0 c, .slice a2 0 c2, .int .i64 3]) ∧ Keep w w' := by
  have := divMod_n h h' hk
  rw [Nat.div_zero, show dmR n 0 = 0 from rfl, show dmE 0 = 3 from rfl] at this
  refine this.mono ?_
  rintro e w' ⟨x, y, rfl, ⟨a, len, cap, rfl, hr⟩, ⟨a2, len2, cap2, rfl, hr2⟩, hk⟩
  have e1 := hr.len_eq
  have e2 := hr2.len_eq
  rw [dig_zero] at e1 e2
  subst e1
  subst e2
  exact ⟨a, cap, a2, cap2, rfl, hk⟩
theorem rmake_len {w : World} {v : Value} {n k : Nat} (d : Nat) (h : Nm w v n k) (hk : k ≤ 1048576) (hd : (dig n).length = d) :
    Calls Tryd.prog 18 #[v] w fun e w' => ∃ a c, e = .returned (.slice a d c) ∧ Keep w w' := by
  refine (rmake_n h hk).mono ?_
  rintro e w' ⟨x, rfl, ⟨a, len, cap, rfl, hr⟩, hk⟩
  have e1 := hr.len_eq
  rw [hd] at e1
  subst e1
  exact ⟨a, cap, rfl, hk⟩
set_option maxHeartbeats 800000 in
theorem law_mul_small (aa ab ac : Option Addr) (na pa nb pb nc pc : Nat) (la lb lc : List Nat) (w : World) (ha : Rd w aa na pa la) (hb : Rd w ab nb pb lb) (hc : Rd w ac nc pc lc) (hT : Tab w) (sa : na ≤ 8) (sb : nb ≤ 8) (sc : nc ≤ 8) :
    Calls Tryd.prog 7 #[.slice aa na pa, .slice ab nb pb, .slice ac nc pc] w (TPost w) := by
  have ca := ha.le_cap
  have da := ha.cap_le
  have ea := ha.len_eq
  have La := Lib.hid (show Lm w (.slice aa na pa) la from ⟨_, _, _, rfl, ha⟩)
  have cb := hb.le_cap
  have db := hb.cap_le
  have eb := hb.len_eq
  have Lb := Lib.hid (show Lm w (.slice ab nb pb) lb from ⟨_, _, _, rfl, hb⟩)
  have cc := hc.le_cap
  have dc := hc.cap_le
  have ec := hc.len_eq
  have Lc := Lib.hid (show Lm w (.slice ac nc pc) lc from ⟨_, _, _, rfl, hc⟩)
  have HEa := Lib.hid ea
  have HEb := Lib.hid eb
  have HEc := Lib.hid ec
  have HT := Lib.hid hT
  clear ha hb hc hT ea eb ec
  have PA : Hid (nv la < BB ^ 8) := Lib.hid (La.out.nm (k := 8) (by rw [HEa.out]; omega)).lt
  have PB : Hid (nv lb < BB ^ 8) := Lib.hid (Lb.out.nm (k := 8) (by rw [HEb.out]; omega)).lt
  have PC : Hid (nv lc < BB ^ 8) := Lib.hid (Lc.out.nm (k := 8) (by rw [HEc.out]; omega)).lt
  go_enter Tryd.func7, Tryd.ntmps7
  go_wp2_with fail
  refine Calls.mono (awake_c _ HT.out) ?_
  rintro e w1 ⟨rfl, kk1⟩
  have La_1 := Lib.hid (La.out.keep kk1)
  have Lb_1 := Lib.hid (Lb.out.keep kk1)
  have Lc_1 := Lib.hid (Lc.out.keep kk1)
  have KW1 : Hid (Keep w w1) := Lib.hid kk1
  clear kk1 La Lb Lc
  go_wp2_with fail
  refine Calls.mono (copied_n La_1.out (by rw [HEa.out]; omega)) ?_
  rintro e w2 ⟨ua, rfl, Ua, kk2⟩
  have La_2 := Lib.hid (La_1.out.keep kk2)
  have Lb_2 := Lib.hid (Lb_1.out.keep kk2)
  have Lc_2 := Lib.hid (Lc_1.out.keep kk2)
  have Ua_2 := Lib.hid Ua
  have KW2 := Lib.hid (KW1.out.trans kk2)
  clear kk2 La_1 Lb_1 Lc_1 Ua KW1
  go_wp2_with fail
  refine Calls.mono (copied_n Lb_2.out (by rw [HEb.out]; omega)) ?_
  rintro e w3 ⟨ub, rfl, Ub, kk3⟩
  have La_3 := Lib.hid (La_2.out.keep kk3)
  have Lb_3 := Lib.hid (Lb_2.out.keep kk3)
  have Lc_3 := Lib.hid (Lc_2.out.keep kk3)
  have Ua_3 := Lib.hid (Ua_2.out.keep kk3)
  have Ub_3 := Lib.hid Ub
  have KW3 := Lib.hid (KW2.out.trans kk3)
  clear kk3 La_2 Lb_2 Lc_2 Ua_2 Ub KW2
  go_wp2_with fail
  refine Calls.mono (mul_n (Ua_3.out.nm (k := 8) (by rw [HEa.out]; omega)) (Ub_3.out.nm (k := 8) (by rw [HEb.out]; omega)) (by omega) (by omega) (by omega)) ?_
  rintro e w4 ⟨p, rfl, P, kk4⟩
  have La_4 := Lib.hid (La_3.out.keep kk4)
  have Lb_4 := Lib.hid (Lb_3.out.keep kk4)
  have Lc_4 := Lib.hid (Lc_3.out.keep kk4)
  have P_4 := Lib.hid P
  have KW4 := Lib.hid (KW3.out.trans kk4)
  clear kk4 La_3 Lb_3 Lc_3 P KW3
  go_wp2_with fail
  refine Calls.mono (rmul_n (La_4.out.nm (k := 8) (by rw [HEa.out]; omega)) (Lb_4.out.nm (k := 8) (by rw [HEb.out]; omega)) (by omega)) ?_
  rintro e w5 ⟨r, rfl, R, kk5⟩
  have La_5 := Lib.hid (La_4.out.keep kk5)
  have Lb_5 := Lib.hid (Lb_4.out.keep kk5)
  have Lc_5 := Lib.hid (Lc_4.out.keep kk5)
  have P_5 := Lib.hid (P_4.out.keep kk5)
  have R_5 := Lib.hid R
  have KW5 := Lib.hid (KW4.out.trans kk5)
  clear kk5 La_4 Lb_4 Lc_4 P_4 R KW4
  go_wp2_with fail
  refine Calls.mono (same_t P_5.out R_5.out rfl) ?_
  rintro e w6 ⟨rfl, kk6⟩
  have La_6 := Lib.hid (La_5.out.keep kk6)
  have Lb_6 := Lib.hid (Lb_5.out.keep kk6)
  have Lc_6 := Lib.hid (Lc_5.out.keep kk6)
  have P_6 := Lib.hid (P_5.out.keep kk6)
  have KW6 := Lib.hid (KW5.out.trans kk6)
  clear kk6 La_5 Lb_5 Lc_5 P_5 KW5
  go_wp2_with fail
  refine Calls.mono (mul_n (Lb_6.out.nm (k := 8) (by rw [HEb.out]; omega)) (La_6.out.nm (k := 8) (by rw [HEa.out]; omega)) (by omega) (by omega) (by omega)) ?_
  rintro e w7 ⟨r2, rfl, R2, kk7⟩
  have La_7 := Lib.hid (La_6.out.keep kk7)
  have Lb_7 := Lib.hid (Lb_6.out.keep kk7)
  have Lc_7 := Lib.hid (Lc_6.out.keep kk7)
  have P_7 := Lib.hid (P_6.out.keep kk7)
  have R2_7 := Lib.hid R2
  have KW7 := Lib.hid (KW6.out.trans kk7)
  clear kk7 La_6 Lb_6 Lc_6 P_6 R2 KW6
  go_wp2_with fail
  refine Calls.mono (same_t P_7.out R2_7.out (Nat.mul_comm _ _)) ?_
  rintro e w8 ⟨rfl, kk8⟩
  have La_8 := Lib.hid (La_7.out.keep kk8)
  have Lb_8 := Lib.hid (Lb_7.out.keep kk8)
  have Lc_8 := Lib.hid (Lc_7.out.keep kk8)
  have P_8 := Lib.hid (P_7.out.keep kk8)
  have KW8 := Lib.hid (KW7.out.trans kk8)
  clear kk8 La_7 Lb_7 Lc_7 P_7 KW7
  go_wp2_with fail
  refine Calls.mono (mul_n (P_8.out.nm (k := 16) (lt_mul PA.out PB.out)) (Lc_8.out.nm (k := 8) (by rw [HEc.out]; omega)) (by omega) (by omega) (by omega)) ?_
  rintro e w9 ⟨q, rfl, Q, kk9⟩
  have La_9 := Lib.hid (La_8.out.keep kk9)
  have Lb_9 := Lib.hid (Lb_8.out.keep kk9)
  have Lc_9 := Lib.hid (Lc_8.out.keep kk9)
  have P_9 := Lib.hid (P_8.out.keep kk9)
  have Q_9 := Lib.hid Q
  have KW9 := Lib.hid (KW8.out.trans kk9)
  clear kk9 La_8 Lb_8 Lc_8 P_8 Q KW8
  go_wp2_with fail
  refine Calls.mono (mul_n (Lb_9.out.nm (k := 8) (by rw [HEb.out]; omega)) (Lc_9.out.nm (k := 8) (by rw [HEc.out]; omega)) (by omega) (by omega) (by omega)) ?_
  rintro e w10 ⟨r3, rfl, R3, kk10⟩
  have La_10 := Lib.hid (La_9.out.keep kk10)
  have Lb_10 := Lib.hid (Lb_9.out.keep kk10)
  have Lc_10 := Lib.hid (Lc_9.out.keep kk10)
  have P_10 := Lib.hid (P_9.out.keep kk10)
  have Q_10 := Lib.hid (Q_9.out.keep kk10)
  have R3_10 := Lib.hid R3
  have KW10 := Lib.hid (KW9.out.trans kk10)
  clear kk10 La_9 Lb_9 Lc_9 P_9 Q_9 R3 KW9
  go_wp2_with fail
  refine Calls.mono (mul_n (La_10.out.nm (k := 8) (by rw [HEa.out]; omega)) (R3_10.out.nm (k := 16) (lt_mul PB.out PC.out)) (by omega) (by omega) (by omega)) ?_
  rintro e w11 ⟨r4, rfl, R4, kk11⟩
  have La_11 := Lib.hid (La_10.out.keep kk11)
  have Lb_11 := Lib.hid (Lb_10.out.keep kk11)
  have Lc_11 := Lib.hid (Lc_10.out.keep kk11)
  have P_11 := Lib.hid (P_10.out.keep kk11)
  have Q_11 := Lib.hid (Q_10.out.keep kk11)
  have R4_11 := Lib.hid R4
  have KW11 := Lib.hid (KW10.out.trans kk11)
  clear kk11 La_10 Lb_10 Lc_10 P_10 Q_10 R4 KW10
  go_wp2_with fail
  refine Calls.mono (same_t Q_11.out R4_11.out (Nat.mul_assoc _ _ _)) ?_
  rintro e w12 ⟨rfl, kk12⟩
  have La_12 := Lib.hid (La_11.out.keep kk12)
  have Lb_12 := Lib.hid (Lb_11.out.keep kk12)
  have Lc_12 := Lib.hid (Lc_11.out.keep kk12)
  have P_12 := Lib.hid (P_11.out.keep kk12)
  have KW12 := Lib.hid (KW11.out.trans kk12)
  clear kk12 La_11 Lb_11 Lc_11 P_11 KW11
  go_wp2_with fail
  refine Calls.mono (add_n (Lb_12.out.nm (k := 8) (by rw [HEb.out]; omega)) (Lc_12.out.nm (k := 8) (by rw [HEc.out]; omega)) (by omega) (by omega)) ?_
  rintro e w13 ⟨s, rfl, S, kk13⟩
  have La_13 := Lib.hid (La_12.out.keep kk13)
  have Lb_13 := Lib.hid (Lb_12.out.keep kk13)
  have Lc_13 := Lib.hid (Lc_12.out.keep kk13)
  have P_13 := Lib.hid (P_12.out.keep kk13)
  have S_13 := Lib.hid S
  have KW13 := Lib.hid (KW12.out.trans kk13)
  clear kk13 La_12 Lb_12 Lc_12 P_12 S KW12
  go_wp2_with fail
  refine Calls.mono (mul_n (La_13.out.nm (k := 8) (by rw [HEa.out]; omega)) (S_13.out.nm (k := 9) (lt_add PB.out PC.out)) (by omega) (by omega) (by omega)) ?_
  rintro e w14 ⟨r5, rfl, R5, kk14⟩
  have La_14 := Lib.hid (La_13.out.keep kk14)
  have Lb_14 := Lib.hid (Lb_13.out.keep kk14)
  have Lc_14 := Lib.hid (Lc_13.out.keep kk14)
  have P_14 := Lib.hid (P_13.out.keep kk14)
  have R5_14 := Lib.hid R5
  have KW14 := Lib.hid (KW13.out.trans kk14)
  clear kk14 La_13 Lb_13 Lc_13 P_13 R5 KW13
  go_wp2_with fail
  refine Calls.mono (mul_n (La_14.out.nm (k := 8) (by rw [HEa.out]; omega)) (Lc_14.out.nm (k := 8) (by rw [HEc.out]; omega)) (by omega) (by omega) (by omega)) ?_
  rintro e w15 ⟨r6, rfl, R6, kk15⟩
  have La_15 := Lib.hid (La_14.out.keep kk15)
  have Lb_15 := Lib.hid (Lb_14.out.keep kk15)
  have Lc_15 := Lib.hid (Lc_14.out.keep kk15)
  have P_15 := Lib.hid (P_14.out.keep kk15)
  have R5_15 := Lib.hid (R5_14.out.keep kk15)
  have R6_15 := Lib.hid R6
  have KW15 := Lib.hid (KW14.out.trans kk15)
  clear kk15 La_14 Lb_14 Lc_14 P_14 R5_14 R6 KW14
  go_wp2_with fail
  refine Calls.mono (add_n (P_15.out.nm (k := 16) (lt_mul PA.out PB.out)) (R6_15.out.nm (k := 16) (lt_mul PA.out PC.out)) (by omega) (by omega)) ?_
  rintro e w16 ⟨r7, rfl, R7, kk16⟩
  have La_16 := Lib.hid (La_15.out.keep kk16)
  have Lb_16 := Lib.hid (Lb_15.out.keep kk16)
  have Lc_16 := Lib.hid (Lc_15.out.keep kk16)
  have R5_16 := Lib.hid (R5_15.out.keep kk16)
  have R7_16 := Lib.hid R7
  have KW16 := Lib.hid (KW15.out.trans kk16)
  clear kk16 La_15 Lb_15 Lc_15 R5_15 R7 KW15
  go_wp2_with fail
  refine Calls.mono (same_t R5_16.out R7_16.out (Nat.mul_add _ _ _)) ?_
  rintro e w17 ⟨rfl, kk17⟩
  have La_17 := Lib.hid (La_16.out.keep kk17)
  have Lb_17 := Lib.hid (Lb_16.out.keep kk17)
  have Lc_17 := Lib.hid (Lc_16.out.keep kk17)
  have KW17 := Lib.hid (KW16.out.trans kk17)
  clear kk17 La_16 Lb_16 Lc_16 KW16
  go_wp2_with fail
  go_ret
  exact ⟨rfl, KW17.out⟩
theorem law_mul (aa ab ac : Option Addr) (na pa nb pb nc pc : Nat) (la lb lc : List Nat) (w : World) (ha : Rd w aa na pa la) (hb : Rd w ab nb pb lb) (hc : Rd w ac nc pc lc) (hT : Tab w) : Calls Tryd.prog 7 #[.slice aa na pa, .slice ab nb pb, .slice ac nc pc] w (TPost w) := by
  by_cases sa : na ≤ 8
  case neg =>
    have da := ha.cap_le
    have ca := ha.le_cap
    have db := hb.cap_le
    have cb := hb.le_cap
    have dc := hc.cap_le
    have cc := hc.le_cap
    have HT := Lib.hid hT
    clear ha hb hc hT
    go_enter Tryd.func7, Tryd.ntmps7
    go_wp2_with fail
    refine Calls.mono (awake_c _ HT.out) ?_
    rintro e w1 ⟨rfl, k1⟩
    go_wp2_with fail
    go_ret
    exact ⟨rfl, k1⟩
  by_cases sb : nb ≤ 8
  case neg =>
    have da := ha.cap_le
    have ca := ha.le_cap
    have db := hb.cap_le
    have cb := hb.le_cap
    have dc := hc.cap_le
    have cc := hc.le_cap
    have HT := Lib.hid hT
    clear ha hb hc hT
    go_enter Tryd.func7, Tryd.ntmps7
    go_wp2_with fail
    refine Calls.mono (awake_c _ HT.out) ?_
    rintro e w1 ⟨rfl, k1⟩
    go_wp2_with fail
    go_ret
    exact ⟨rfl, k1⟩
  by_cases sc : nc ≤ 8
  case neg =>
    have da := ha.cap_le
    have ca := ha.le_cap
    have db := hb.cap_le
    have cb := hb.le_cap
    have dc := hc.cap_le
    have cc := hc.le_cap
    have HT := Lib.hid hT
    clear ha hb hc hT
    go_enter Tryd.func7, Tryd.ntmps7
    go_wp2_with fail
    refine Calls.mono (awake_c _ HT.out) ?_
    rintro e w1 ⟨rfl, k1⟩
    go_wp2_with fail
    go_ret
    exact ⟨rfl, k1⟩
  exact law_mul_small aa ab ac na pa nb pb nc pc la lb lc w ha hb hc hT sa sb sc
set_option maxHeartbeats 800000 in
theorem law_div_zero (aa ab : Option Addr) (na pa nb pb : Nat) (la lb : List Nat) (w : World) (ha : Rd w aa na pa la) (hb : Rd w ab nb pb lb) (hT : Tab w) (sa : na ≤ 8) (sb : nb ≤ 8) (h0 : nv lb = 0) :
    Calls Tryd.prog 9 #[.slice aa na pa, .slice ab nb pb] w (TPost w) := by
  have ca := ha.le_cap
  have da := ha.cap_le
  have ea := ha.len_eq
  have La := Lib.hid (show Lm w (.slice aa na pa) la from ⟨_, _, _, rfl, ha⟩)
  have cb := hb.le_cap
  have db := hb.cap_le
  have eb := hb.len_eq
  have Lb := Lib.hid (show Lm w (.slice ab nb pb) lb from ⟨_, _, _, rfl, hb⟩)
  have HEa := Lib.hid ea
  have HEb := Lib.hid eb
  have HT := Lib.hid hT
  clear ha hb hT ea eb
  obtain ⟨d, hd⟩ : ∃ d, (dig (nv lb)).length = d := ⟨_, rfl⟩
  have hd0 : d = 0 := by rw [← hd, h0, dig_zero]; rfl
  subst hd0
  have HD := Lib.hid hd
  have H0 := Lib.hid h0
  clear hd h0
  go_enter Tryd.func9, Tryd.ntmps9
  go_wp2_with fail
  refine Calls.mono (awake_c _ HT.out) ?_
  rintro e w1 ⟨rfl, kk1⟩
  have La_1 := Lib.hid (La.out.keep kk1)
  have Lb_1 := Lib.hid (Lb.out.keep kk1)
  have KW1 : Hid (Keep w w1) := Lib.hid kk1
  clear kk1 La Lb
  go_wp2_with fail
  refine Calls.mono (copied_n La_1.out (by rw [HEa.out]; omega)) ?_
  rintro e w2 ⟨ua, rfl, Ua, kk2⟩
  have La_2 := Lib.hid (La_1.out.keep kk2)
  have Lb_2 := Lib.hid (Lb_1.out.keep kk2)
  have Ua_2 := Lib.hid Ua
  have KW2 := Lib.hid (KW1.out.trans kk2)
  clear kk2 La_1 Lb_1 Ua KW1
  go_wp2_with fail
  refine Calls.mono (copied_n Lb_2.out (by rw [HEb.out]; omega)) ?_
  rintro e w3 ⟨ub, rfl, Ub, kk3⟩
  have La_3 := Lib.hid (La_2.out.keep kk3)
  have Lb_3 := Lib.hid (Lb_2.out.keep kk3)
  have Ua_3 := Lib.hid (Ua_2.out.keep kk3)
  have Ub_3 := Lib.hid Ub
  have KW3 := Lib.hid (KW2.out.trans kk3)
  clear kk3 La_2 Lb_2 Ua_2 Ub KW2
  go_wp2_with fail
  refine Calls.mono (divMod_z (Ua_3.out.nm (k := 8) (by rw [HEa.out]; omega)) (H0.out ▸ Ub_3.out.nm (k := 8) (by rw [HEb.out]; omega)) (by omega)) ?_
  rintro e w4 ⟨qa, qc, ra, rc, rfl, kk4⟩
  have La_4 := Lib.hid (La_3.out.keep kk4)
  have Lb_4 := Lib.hid (Lb_3.out.keep kk4)
  have KW4 := Lib.hid (KW3.out.trans kk4)
  clear kk4 La_3 Lb_3 KW3
  go_wp2_with fail
  refine Calls.mono (rmake_len 0 (Lb_4.out.nm (k := 8) (by rw [HEb.out]; omega)) (by omega) HD.out) ?_
  rintro e w5 ⟨ma, mc, rfl, kk5⟩
  have La_5 := Lib.hid (La_4.out.keep kk5)
  have Lb_5 := Lib.hid (Lb_4.out.keep kk5)
  have KW5 := Lib.hid (KW4.out.trans kk5)
  clear kk5 La_4 Lb_4 KW4
  go_wp2_with fail
  go_ret
  exact ⟨rfl, KW5.out⟩
set_option maxHeartbeats 800000 in
theorem law_div_pos (aa ab : Option Addr) (na pa nb pb : Nat) (la lb : List Nat) (w : World) (ha : Rd w aa na pa la) (hb : Rd w ab nb pb lb) (hT : Tab w) (sa : na ≤ 8) (sb : nb ≤ 8) (h0 : nv lb ≠ 0) :
    Calls Tryd.prog 9 #[.slice aa na pa, .slice ab nb pb] w (TPost w) := by
  have ca := ha.le_cap
  have da := ha.cap_le
  have ea := ha.len_eq
  have La := Lib.hid (show Lm w (.slice aa na pa) la from ⟨_, _, _, rfl, ha⟩)
  have cb := hb.le_cap
  have db := hb.cap_le
  have eb := hb.len_eq
  have Lb := Lib.hid (show Lm w (.slice ab nb pb) lb from ⟨_, _, _, rfl, hb⟩)
  have HEa := Lib.hid ea
  have HEb := Lib.hid eb
  have HT := Lib.hid hT
  clear ha hb hT ea eb
  obtain ⟨d, hd⟩ : ∃ d, (dig (nv lb)).length = d := ⟨_, rfl⟩
  have hd0 : d ≠ 0 := by rw [← hd]; intro e; exact h0 (dig_nil_iff.1 (List.length_eq_zero_iff.1 e))
  have hdB : ((d : Int) == 0) = false := by simp; omega
  have HD := Lib.hid hd
  have HE0 : Hid (dmE (nv lb) = 0) := Lib.hid (if_neg h0)
  have PA := (La.out.nm (k := 8) (by rw [HEa.out]; omega)).lt
  obtain ⟨Q, hQ⟩ : ∃ Q, nv la / nv lb = Q := ⟨_, rfl⟩
  obtain ⟨R, hR⟩ : ∃ R, dmR (nv la) (nv lb) = R := ⟨_, rfl⟩
  have hR2 : nv la % nv lb = R := by rw [← hR]; exact (if_neg h0).symm
  have HQ := Lib.hid hQ
  have HR := Lib.hid hR
  have HQL : Hid (Q < BB ^ 8) := Lib.hid (by rw [← hQ]; exact Nat.lt_of_le_of_lt (Nat.div_le_self _ _) PA)
  have HRL : Hid (R < BB ^ 8) := Lib.hid (by rw [← hR2]; exact Nat.lt_of_le_of_lt (Nat.mod_le _ _) PA)
  have HC1 : Hid (cmpv R (nv lb) = -1) := Lib.hid (cmpv_lt (by rw [← hR2]; exact Nat.mod_lt _ (by omega)))
  have HC2 : Hid (cmpv (Q * nv lb + R) (nv la) = 0) := Lib.hid (cmpv_eq (by rw [← hQ, ← hR2, Nat.mul_comm]; exact Nat.div_add_mod _ _))
  have HPB : Hid (nv lb < BB ^ 8) := Lib.hid (Lb.out.nm (k := 8) (by rw [HEb.out]; omega)).lt
  clear hd hQ hR hR2 PA h0
  go_enter Tryd.func9, Tryd.ntmps9
  go_wp2_with fail
  refine Calls.mono (awake_c _ HT.out) ?_
  rintro e w1 ⟨rfl, kk1⟩
  have La_1 := Lib.hid (La.out.keep kk1)
  have Lb_1 := Lib.hid (Lb.out.keep kk1)
  have KW1 : Hid (Keep w w1) := Lib.hid kk1
  clear kk1 La Lb
  go_wp2_with fail
  refine Calls.mono (copied_n La_1.out (by rw [HEa.out]; omega)) ?_
  rintro e w2 ⟨ua, rfl, Ua, kk2⟩
  have La_2 := Lib.hid (La_1.out.keep kk2)
  have Lb_2 := Lib.hid (Lb_1.out.keep kk2)
  have Ua_2 := Lib.hid Ua
  have KW2 := Lib.hid (KW1.out.trans kk2)
  clear kk2 La_1 Lb_1 Ua KW1
  go_wp2_with fail
  refine Calls.mono (copied_n Lb_2.out (by rw [HEb.out]; omega)) ?_
  rintro e w3 ⟨ub, rfl, Ub, kk3⟩
  have La_3 := Lib.hid (La_2.out.keep kk3)
  have Lb_3 := Lib.hid (Lb_2.out.keep kk3)
  have Ua_3 := Lib.hid (Ua_2.out.keep kk3)
  have Ub_3 := Lib.hid Ub
  have KW3 := Lib.hid (KW2.out.trans kk3)
  clear kk3 La_2 Lb_2 Ua_2 Ub KW2
  go_wp2_with fail
  refine Calls.mono (divMod_e Q R 0 (Ua_3.out.nm (k := 8) (by rw [HEa.out]; omega)) (Ub_3.out.nm (k := 8) (by rw [HEb.out]; omega)) (by omega) HQ.out HR.out HE0.out) ?_
  rintro e w4 ⟨q, r, rfl, QQ, RR, kk4⟩
  have La_4 := Lib.hid (La_3.out.keep kk4)
  have Lb_4 := Lib.hid (Lb_3.out.keep kk4)
  have QQ_4 := Lib.hid QQ
  have RR_4 := Lib.hid RR
  have KW4 := Lib.hid (KW3.out.trans kk4)
  clear kk4 La_3 Lb_3 QQ RR KW3
  go_wp2_with fail
  refine Calls.mono (rmake_len d (Lb_4.out.nm (k := 8) (by rw [HEb.out]; omega)) (by omega) HD.out) ?_
  rintro e w5 ⟨ma, mc, rfl, kk5⟩
  have La_5 := Lib.hid (La_4.out.keep kk5)
  have Lb_5 := Lib.hid (Lb_4.out.keep kk5)
  have QQ_5 := Lib.hid (QQ_4.out.keep kk5)
  have RR_5 := Lib.hid (RR_4.out.keep kk5)
  have KW5 := Lib.hid (KW4.out.trans kk5)
  clear kk5 La_4 Lb_4 QQ_4 RR_4 KW4
  go_wp2_with fail
  refine Calls.mono (valid_t QQ_5.out) ?_
  rintro e w6 ⟨rfl, kk6⟩
  have La_6 := Lib.hid (La_5.out.keep kk6)
  have Lb_6 := Lib.hid (Lb_5.out.keep kk6)
  have QQ_6 := Lib.hid (QQ_5.out.keep kk6)
  have RR_6 := Lib.hid (RR_5.out.keep kk6)
  have KW6 := Lib.hid (KW5.out.trans kk6)
  clear kk6 La_5 Lb_5 QQ_5 RR_5 KW5
  go_wp2_with fail
  refine Calls.mono (valid_t RR_6.out) ?_
  rintro e w7 ⟨rfl, kk7⟩
  have La_7 := Lib.hid (La_6.out.keep kk7)
  have Lb_7 := Lib.hid (Lb_6.out.keep kk7)
  have QQ_7 := Lib.hid (QQ_6.out.keep kk7)
  have RR_7 := Lib.hid (RR_6.out.keep kk7)
  have KW7 := Lib.hid (KW6.out.trans kk7)
  clear kk7 La_6 Lb_6 QQ_6 RR_6 KW6
  go_wp2_with fail
  refine Calls.mono (rcmp_v (-1) (RR_7.out.nm (k := 8) HRL.out) (Lb_7.out.nm (k := 8) (by rw [HEb.out]; omega)) HC1.out) ?_
  rintro e w8 ⟨rfl, kk8⟩
  have La_8 := Lib.hid (La_7.out.keep kk8)
  have Lb_8 := Lib.hid (Lb_7.out.keep kk8)
  have QQ_8 := Lib.hid (QQ_7.out.keep kk8)
  have RR_8 := Lib.hid (RR_7.out.keep kk8)
  have KW8 := Lib.hid (KW7.out.trans kk8)
  clear kk8 La_7 Lb_7 QQ_7 RR_7 KW7
  go_wp2_with fail
  refine Calls.mono (rmul_n (QQ_8.out.nm (k := 8) HQL.out) (Lb_8.out.nm (k := 8) (by rw [HEb.out]; omega)) (by omega)) ?_
  rintro e w9 ⟨s, rfl, S, kk9⟩
  have La_9 := Lib.hid (La_8.out.keep kk9)
  have Lb_9 := Lib.hid (Lb_8.out.keep kk9)
  have QQ_9 := Lib.hid (QQ_8.out.keep kk9)
  have RR_9 := Lib.hid (RR_8.out.keep kk9)
  have S_9 := Lib.hid S
  have KW9 := Lib.hid (KW8.out.trans kk9)
  clear kk9 La_8 Lb_8 QQ_8 RR_8 S KW8
  go_wp2_with fail
  refine Calls.mono (radd_n (S_9.out.nm (k := 16) (lt_mul HQL.out HPB.out)) (RR_9.out.nm (k := 16) (lt_up HRL.out (by omega))) (by omega) (by omega)) ?_
  rintro e w10 ⟨t, rfl, T, kk10⟩
  have La_10 := Lib.hid (La_9.out.keep kk10)
  have Lb_10 := Lib.hid (Lb_9.out.keep kk10)
  have QQ_10 := Lib.hid (QQ_9.out.keep kk10)
  have RR_10 := Lib.hid (RR_9.out.keep kk10)
  have T_10 := Lib.hid T
  have KW10 := Lib.hid (KW9.out.trans kk10)
  clear kk10 La_9 Lb_9 QQ_9 RR_9 T KW9
  go_wp2_with fail
  refine Calls.mono (rcmp_v 0 (T_10.out.nm (k := 17) (lt_add (lt_mul HQL.out HPB.out) (lt_up HRL.out (by omega)))) (La_10.out.nm (k := 8) (by rw [HEa.out]; omega)) HC2.out) ?_
  rintro e w11 ⟨rfl, kk11⟩
  have La_11 := Lib.hid (La_10.out.keep kk11)
  have Lb_11 := Lib.hid (Lb_10.out.keep kk11)
  have QQ_11 := Lib.hid (QQ_10.out.keep kk11)
  have RR_11 := Lib.hid (RR_10.out.keep kk11)
  have T_11 := Lib.hid (T_10.out.keep kk11)
  have KW11 := Lib.hid (KW10.out.trans kk11)
  clear kk11 La_10 Lb_10 QQ_10 RR_10 T_10 KW10
  go_wp2_with fail
  go_ret
  exact ⟨rfl, KW11.out⟩
theorem law_div_small (aa ab : Option Addr) (na pa nb pb : Nat) (la lb : List Nat) (w : World) (ha : Rd w aa na pa la) (hb : Rd w ab nb pb lb) (hT : Tab w) (sa : na ≤ 8) (sb : nb ≤ 8) : Calls Tryd.prog 9 #[.slice aa na pa, .slice ab nb pb] w (TPost w) := by
  by_cases h0 : nv lb = 0
  · exact law_div_zero aa ab na pa nb pb la lb w ha hb hT sa sb h0
  · exact law_div_pos aa ab na pa nb pb la lb w ha hb hT sa sb h0
theorem law_div (aa ab : Option Addr) (na pa nb pb : Nat) (la lb : List Nat) (w : World) (ha : Rd w aa na pa la) (hb : Rd w ab nb pb lb) (hT : Tab w) : Calls Tryd.prog 9 #[.slice aa na pa, .slice ab nb pb] w (TPost w) := by
  by_cases sa : na ≤ 8
  case neg =>
    have da := ha.cap_le
    have ca := ha.le_cap
    have db := hb.cap_le
    have cb := hb.le_cap
    have HT := Lib.hid hT
    clear ha hb hT
    go_enter Tryd.func9, Tryd.ntmps9
    go_wp2_with fail
    refine Calls.mono (awake_c _ HT.out) ?_
    rintro e w1 ⟨rfl, k1⟩
    go_wp2_with fail
    go_ret
    exact ⟨rfl, k1⟩
  by_cases sb : nb ≤ 8
  case neg =>
    have da := ha.cap_le
    have ca := ha.le_cap
    have db := hb.cap_le
    have cb := hb.le_cap
    have HT := Lib.hid hT
    clear ha hb hT
    go_enter Tryd.func9, Tryd.ntmps9
    go_wp2_with fail
    refine Calls.mono (awake_c _ HT.out) ?_
    rintro e w1 ⟨rfl, k1⟩
    go_wp2_with fail
    go_ret
    exact ⟨rfl, k1⟩
  exact law_div_small aa ab na pa nb pb la lb w ha hb hT sa sb
set_option maxHeartbeats 800000 in
theorem law_divs_ge (aa ab ac : Option Addr) (na pa nb pb nc pc : Nat) (la lb lc : List Nat) (w : World) (ha : Rd w aa na pa la) (hb : Rd w ab nb pb lb) (hc : Rd w ac nc pc lc) (hT : Tab w) (sa : na ≤ 6) (sb : nb ≤ 6) (sc : nc ≤ 6) (hcb : 0 ≤ cmpv (nv lc) (nv lb)) :
    Calls Tryd.prog 10 #[.slice aa na pa, .slice ab nb pb, .slice ac nc pc] w (TPost w) := by
  have ca := ha.le_cap
  have da := ha.cap_le
  have ea := ha.len_eq
  have La := Lib.hid (show Lm w (.slice aa na pa) la from ⟨_, _, _, rfl, ha⟩)
  have cb := hb.le_cap
  have db := hb.cap_le
  have eb := hb.len_eq
  have Lb := Lib.hid (show Lm w (.slice ab nb pb) lb from ⟨_, _, _, rfl, hb⟩)
  have cc := hc.le_cap
  have dc := hc.cap_le
  have ec := hc.len_eq
  have Lc := Lib.hid (show Lm w (.slice ac nc pc) lc from ⟨_, _, _, rfl, hc⟩)
  have HEa := Lib.hid ea
  have HEb := Lib.hid eb
  have HEc := Lib.hid ec
  have HT := Lib.hid hT
  clear ha hb hc hT ea eb ec
  obtain ⟨Z, hZ⟩ : ∃ Z, cmpv (nv lc) (nv lb) = Z := ⟨_, rfl⟩
  have hz : decide (0 ≤ Z) = true := decide_eq_true (by rw [← hZ]; exact hcb)
  have HZ := Lib.hid hZ
  clear hZ hcb
  go_enter Tryd.func10, Tryd.ntmps10
  go_wp2_with fail
  refine Calls.mono (awake_c _ HT.out) ?_
  rintro e w1 ⟨rfl, kk1⟩
  have La_1 := Lib.hid (La.out.keep kk1)
  have Lb_1 := Lib.hid (Lb.out.keep kk1)
  have Lc_1 := Lib.hid (Lc.out.keep kk1)
  have KW1 : Hid (Keep w w1) := Lib.hid kk1
  clear kk1 La Lb Lc
  go_wp2_with fail
  refine Calls.mono (rcmp_v Z (Lc_1.out.nm (k := 6) (by rw [HEc.out]; omega)) (Lb_1.out.nm (k := 6) (by rw [HEb.out]; omega)) HZ.out) ?_
  rintro e w2 ⟨rfl, kk2⟩
  have La_2 := Lib.hid (La_1.out.keep kk2)
  have Lb_2 := Lib.hid (Lb_1.out.keep kk2)
  have Lc_2 := Lib.hid (Lc_1.out.keep kk2)
  have KW2 := Lib.hid (KW1.out.trans kk2)
  clear kk2 La_1 Lb_1 Lc_1 KW1
  go_wp2_with fail
  go_ret
  exact ⟨rfl, KW2.out⟩
set_option maxHeartbeats 800000 in
theorem law_divs_lt (aa ab ac : Option Addr) (na pa nb pb nc pc : Nat) (la lb lc : List Nat) (w : World) (ha : Rd w aa na pa la) (hb : Rd w ab nb pb lb) (hc : Rd w ac nc pc lc) (hT : Tab w) (sa : na ≤ 6) (sb : nb ≤ 6) (sc : nc ≤ 6) (hcb : nv lc < nv lb) :
    Calls Tryd.prog 10 #[.slice aa na pa, .slice ab nb pb, .slice ac nc pc] w (TPost w) := by
  have ca := ha.le_cap
  have da := ha.cap_le
  have ea := ha.len_eq
  have La := Lib.hid (show Lm w (.slice aa na pa) la from ⟨_, _, _, rfl, ha⟩)
  have cb := hb.le_cap
  have db := hb.cap_le
  have eb := hb.len_eq
  have Lb := Lib.hid (show Lm w (.slice ab nb pb) lb from ⟨_, _, _, rfl, hb⟩)
  have cc := hc.le_cap
  have dc := hc.cap_le
  have ec := hc.len_eq
  have Lc := Lib.hid (show Lm w (.slice ac nc pc) lc from ⟨_, _, _, rfl, hc⟩)
  have HEa := Lib.hid ea
  have HEb := Lib.hid eb
  have HEc := Lib.hid ec
  have HT := Lib.hid hT
  clear ha hb hc hT ea eb ec
  have HZ : Hid (cmpv (nv lc) (nv lb) = -1) := Lib.hid (cmpv_lt hcb)
  have PA : Hid (nv la < BB ^ 6) := Lib.hid (La.out.nm (k := 6) (by rw [HEa.out]; omega)).lt
  have PB : Hid (nv lb < BB ^ 6) := Lib.hid (Lb.out.nm (k := 6) (by rw [HEb.out]; omega)).lt
  have PC : Hid (nv lc < BB ^ 6) := Lib.hid (Lc.out.nm (k := 6) (by rw [HEc.out]; omega)).lt
  have PS : Hid (nv la * nv lb + nv lc < BB ^ 13) := Lib.hid (lt_add (lt_mul PA.out PB.out) (lt_up PC.out (by omega)))
  have HQ : Hid ((nv la * nv lb + nv lc) / nv lb = nv la) := Lib.hid (by rw [Nat.mul_comm, Nat.mul_add_div (by omega), Nat.div_eq_of_lt hcb]; rfl)
  have HR : Hid (dmR (nv la * nv lb + nv lc) (nv lb) = nv lc) := Lib.hid (by unfold dmR; rw [if_neg (by omega), Nat.mul_comm, Nat.mul_add_mod, Nat.mod_eq_of_lt hcb])
  have HE0 : Hid (dmE (nv lb) = 0) := Lib.hid (if_neg (by omega))
  clear hcb
  go_enter Tryd.func10, Tryd.ntmps10
  go_wp2_with fail
  refine Calls.mono (awake_c _ HT.out) ?_
  rintro e w1 ⟨rfl, kk1⟩
  have La_1 := Lib.hid (La.out.keep kk1)
  have Lb_1 := Lib.hid (Lb.out.keep kk1)
  have Lc_1 := Lib.hid (Lc.out.keep kk1)
  have KW1 : Hid (Keep w w1) := Lib.hid kk1
  clear kk1 La Lb Lc
  go_wp2_with fail
  refine Calls.mono (rcmp_v (-1) (Lc_1.out.nm (k := 6) (by rw [HEc.out]; omega)) (Lb_1.out.nm (k := 6) (by rw [HEb.out]; omega)) HZ.out) ?_
  rintro e w2 ⟨rfl, kk2⟩
  have La_2 := Lib.hid (La_1.out.keep kk2)
  have Lb_2 := Lib.hid (Lb_1.out.keep kk2)
  have Lc_2 := Lib.hid (Lc_1.out.keep kk2)
  have KW2 := Lib.hid (KW1.out.trans kk2)
  clear kk2 La_1 Lb_1 Lc_1 KW1
  go_wp2_with fail
  refine Calls.mono (mul_n (La_2.out.nm (k := 6) (by rw [HEa.out]; omega)) (Lb_2.out.nm (k := 6) (by rw [HEb.out]; omega)) (by omega) (by omega) (by omega)) ?_
  rintro e w3 ⟨p, rfl, P, kk3⟩
  have La_3 := Lib.hid (La_2.out.keep kk3)
  have Lb_3 := Lib.hid (Lb_2.out.keep kk3)
  have Lc_3 := Lib.hid (Lc_2.out.keep kk3)
  have P_3 := Lib.hid P
  have KW3 := Lib.hid (KW2.out.trans kk3)
  clear kk3 La_2 Lb_2 Lc_2 P KW2
  go_wp2_with fail
  refine Calls.mono (add_n (P_3.out.nm (k := 12) (lt_mul PA.out PB.out)) (Lc_3.out.nm (k := 6) (by rw [HEc.out]; omega)) (by omega) (by omega)) ?_
  rintro e w4 ⟨s, rfl, S, kk4⟩
  have La_4 := Lib.hid (La_3.out.keep kk4)
  have Lb_4 := Lib.hid (Lb_3.out.keep kk4)
  have Lc_4 := Lib.hid (Lc_3.out.keep kk4)
  have S_4 := Lib.hid S
  have KW4 := Lib.hid (KW3.out.trans kk4)
  clear kk4 La_3 Lb_3 Lc_3 S KW3
  go_wp2_with fail
  refine Calls.mono (divMod_e _ _ 0 (S_4.out.nm (k := 13) PS.out) (Lb_4.out.nm (k := 6) (by rw [HEb.out]; omega)) (by omega) HQ.out HR.out HE0.out) ?_
  rintro e w5 ⟨q, r, rfl, Q, R, kk5⟩
  have La_5 := Lib.hid (La_4.out.keep kk5)
  have Lb_5 := Lib.hid (Lb_4.out.keep kk5)
  have Lc_5 := Lib.hid (Lc_4.out.keep kk5)
  have Q_5 := Lib.hid Q
  have R_5 := Lib.hid R
  have KW5 := Lib.hid (KW4.out.trans kk5)
  clear kk5 La_4 Lb_4 Lc_4 Q R KW4
  go_wp2_with fail
  refine Calls.mono (rmake_n (La_5.out.nm (k := 6) (by rw [HEa.out]; omega)) (by omega)) ?_
  rintro e w6 ⟨m, rfl, M, kk6⟩
  have La_6 := Lib.hid (La_5.out.keep kk6)
  have Lb_6 := Lib.hid (Lb_5.out.keep kk6)
  have Lc_6 := Lib.hid (Lc_5.out.keep kk6)
  have Q_6 := Lib.hid (Q_5.out.keep kk6)
  have R_6 := Lib.hid (R_5.out.keep kk6)
  have M_6 := Lib.hid M
  have KW6 := Lib.hid (KW5.out.trans kk6)
  clear kk6 La_5 Lb_5 Lc_5 Q_5 R_5 M KW5
  go_wp2_with fail
  refine Calls.mono (same_t Q_6.out M_6.out rfl) ?_
  rintro e w7 ⟨rfl, kk7⟩
  have La_7 := Lib.hid (La_6.out.keep kk7)
  have Lb_7 := Lib.hid (Lb_6.out.keep kk7)
  have Lc_7 := Lib.hid (Lc_6.out.keep kk7)
  have R_7 := Lib.hid (R_6.out.keep kk7)
  have KW7 := Lib.hid (KW6.out.trans kk7)
  clear kk7 La_6 Lb_6 Lc_6 R_6 KW6
  go_wp2_with fail
  refine Calls.mono (rmake_n (Lc_7.out.nm (k := 6) (by rw [HEc.out]; omega)) (by omega)) ?_
  rintro e w8 ⟨m2, rfl, M2, kk8⟩
  have La_8 := Lib.hid (La_7.out.keep kk8)
  have Lb_8 := Lib.hid (Lb_7.out.keep kk8)
  have Lc_8 := Lib.hid (Lc_7.out.keep kk8)
  have R_8 := Lib.hid (R_7.out.keep kk8)
  have M2_8 := Lib.hid M2
  have KW8 := Lib.hid (KW7.out.trans kk8)
  clear kk8 La_7 Lb_7 Lc_7 R_7 M2 KW7
  go_wp2_with fail
  refine Calls.mono (same_t R_8.out M2_8.out rfl) ?_
  rintro e w9 ⟨rfl, kk9⟩
  have La_9 := Lib.hid (La_8.out.keep kk9)
  have Lb_9 := Lib.hid (Lb_8.out.keep kk9)
  have Lc_9 := Lib.hid (Lc_8.out.keep kk9)
  have R_9 := Lib.hid (R_8.out.keep kk9)
  have M2_9 := Lib.hid (M2_8.out.keep kk9)
  have KW9 := Lib.hid (KW8.out.trans kk9)
  clear kk9 La_8 Lb_8 Lc_8 R_8 M2_8 KW8
  go_wp2_with fail
  go_ret
  exact ⟨rfl, KW9.out⟩
theorem law_divs_small (aa ab ac : Option Addr) (na pa nb pb nc pc : Nat) (la lb lc : List Nat) (w : World) (ha : Rd w aa na pa la) (hb : Rd w ab nb pb lb) (hc : Rd w ac nc pc lc) (hT : Tab w) (sa : na ≤ 6) (sb : nb ≤ 6) (sc : nc ≤ 6) : Calls Tryd.prog 10 #[.slice aa na pa, .slice ab nb pb, .slice ac nc pc] w (TPost w) := by
  by_cases h0 : nv lc < nv lb
  · exact law_divs_lt aa ab ac na pa nb pb nc pc la lb lc w ha hb hc hT sa sb sc h0
  · exact law_divs_ge aa ab ac na pa nb pb nc pc la lb lc w ha hb hc hT sa sb sc (by unfold cmpv; rw [if_neg h0]; split <;> omega)
theorem law_divs (aa ab ac : Option Addr) (na pa nb pb nc pc : Nat) (la lb lc : List Nat) (w : World) (ha : Rd w aa na pa la) (hb : Rd w ab nb pb lb) (hc : Rd w ac nc pc lc) (hT : Tab w) : Calls Tryd.prog 10 #[.slice aa na pa, .slice ab nb pb, .slice ac nc pc] w (TPost w) := by
  by_cases sa : na ≤ 6
  case neg =>
    have da := ha.cap_le
    have ca := ha.le_cap
    have db := hb.cap_le
    have cb := hb.le_cap
    have dc := hc.cap_le
    have cc := hc.le_cap
    have HT := Lib.hid hT
    clear ha hb hc hT
    go_enter Tryd.func10, Tryd.ntmps10
    go_wp2_with fail
    refine Calls.mono (awake_c _ HT.out) ?_
    rintro e w1 ⟨rfl, k1⟩
    go_wp2_with fail
    go_ret
    exact ⟨rfl, k1⟩
  by_cases sb : nb ≤ 6
  case neg =>
    have da := ha.cap_le
    have ca := ha.le_cap
    have db := hb.cap_le
    have cb := hb.le_cap
    have dc := hc.cap_le
    have cc := hc.le_cap
    have HT := Lib.hid hT
    clear ha hb hc hT
    go_enter Tryd.func10, Tryd.ntmps10
    go_wp2_with fail
    refine Calls.mono (awake_c _ HT.out) ?_
    rintro e w1 ⟨rfl, k1⟩
    go_wp2_with fail
    go_ret
    exact ⟨rfl, k1⟩
  by_cases sc : nc ≤ 6
  case neg =>
    have da := ha.cap_le
    have ca := ha.le_cap
    have db := hb.cap_le
    have cb := hb.le_cap
    have dc := hc.cap_le
    have cc := hc.le_cap
    have HT := Lib.hid hT
    clear ha hb hc hT
    go_enter Tryd.func10, Tryd.ntmps10
    go_wp2_with fail
    refine Calls.mono (awake_c _ HT.out) ?_
    rintro e w1 ⟨rfl, k1⟩
    go_wp2_with fail
    go_ret
    exact ⟨rfl, k1⟩
  exact law_divs_small aa ab ac na pa nb pb nc pc la lb lc w ha hb hc hT sa sb sc
end Go.Proofs.YtgoiechhhnhgaaaDoor
