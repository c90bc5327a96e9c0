/- The laws of layer 1, walked: subtraction, comparison, making. -/
import Derived.Test.YtgoiechhhnhgaaaDoorH3
namespace Go.Proofs.YtgoiechhhnhgaaaDoor
open Go.RowKit
set_option linter.unusedVariables false
theorem sub_ge {w : World} {v u : Value} {n m k j : Nat} (h : Nm w v n k) (h' : Nm w u m j) (hk : k ≤ 1048575) (hj : j ≤ 1048575) (hge : m ≤ n) :
    Calls Tryd.prog 30 #[v, u] w fun e w' => ∃ x, e = .returned (.tuple #[x, .int .i64 0]) ∧ Cn w' x (n - m) ∧ Keep w w' := by
  have := sub_n h h' hk hj
  rwa [show subE n m = 0 from if_neg (by omega)] at this
theorem cmp_v {w : World} {v u : Value} {n m k j : Nat} (z : Int) (h : Nm w v n k) (h' : Nm w u m j) (hz : cmpv n m = z) :
    Calls Tryd.prog 26 #[v, u] w fun e w' => e = .returned (.int .i64 z) ∧ Keep w w' := hz ▸ cmp_n h h'
theorem rcmp_v {w : World} {v u : Value} {n m k j : Nat} (z : Int) (h : Nm w v n k) (h' : Nm w u m j) (hz : cmpv n m = z) :
    Calls Tryd.prog 27 #[v, u] w fun e w' => e = .returned (.int .i64 z) ∧ Keep w w' := hz ▸ rcmp_n h h'
theorem canB_dig (n : Nat) : canB (dig n) = true := by
  by_cases h : n = 0
  · subst h; rw [dig_zero]; rfl
  · have := dig_top h
    unfold canB
    rw [Bool.or_eq_true]
    right
    rw [bne_iff_ne]
    exact this
theorem valid_t {w : World} {v : Value} {n : Nat} (h : Cn w v n) : Calls Tryd.prog 19 #[v] w fun e w' => e = .returned (.bool true) ∧ Keep w w' := by
  have := valid_n h
  rwa [canB_dig] at this
theorem uint_v {w : World} {v : Value} {n k : Nat} (h : Nm w v n k) (hn : n < 18446744073709551616) :
    Calls Tryd.prog 15 #[v] w fun e w' => e = .returned (.tuple #[.int .u64 n, .bool true]) ∧ Keep w w' := by
  have := uint_n h
  rwa [show uintV n = n from if_pos hn, show uintB n = true from decide_eq_true hn] at this
theorem uint_e {w : World} {v : Value} {n k : Nat} (U : Nat) (B : Bool) (h : Nm w v n k) (hU : uintV n = U) (hB : uintB n = B) :
    Calls Tryd.prog 15 #[v] w fun e w' => e = .returned (.tuple #[.int .u64 U, .bool B]) ∧ Keep w w' := hU ▸ hB ▸ uint_n h
theorem ruint_e {w : World} {v : Value} {n k : Nat} (U : Nat) (B : Bool) (h : Nm w v n k) (hk : k ≤ 1048576) (hU : uintV n = U) (hB : uintB n = B) :
    Calls Tryd.prog 16 #[v] w fun e w' => e = .returned (.tuple #[.int .u64 U, .bool B]) ∧ Keep w w' := hU ▸ hB ▸ ruint_n h hk
theorem bits_e {w : World} {v : Value} {n k : Nat} (U : Nat) (h : Nm w v n k) (hk : k ≤ 1048576) (hU : bl n = U) :
    Calls Tryd.prog 21 #[v] w fun e w' => e = .returned (.int .i64 U) ∧ Keep w w' := hU ▸ bits_n h hk
theorem rbits_e {w : World} {v : Value} {n k : Nat} (U : Nat) (h : Nm w v n k) (hk : k ≤ 1048576) (hU : bl n = U) :
    Calls Tryd.prog 22 #[v] w fun e w' => e = .returned (.int .i64 U) ∧ Keep w w' := hU ▸ rbits_n h hk
theorem valid_e {w : World} {v : Value} {l : List Nat} (b : Bool) (h : Lm w v l) (hb : canB l = b) : Calls Tryd.prog 19 #[v] w fun e w' => e = .returned (.bool b) ∧ Keep w w' := hb ▸ valid_n h
theorem rvalid_e {w : World} {v : Value} {l : List Nat} (b : Bool) (h : Lm w v l) (hb : canB l = b) : Calls Tryd.prog 20 #[v] w fun e w' => e = .returned (.bool b) ∧ Keep w w' := hb ▸ rvalid_n h
theorem sub_e {w : World} {v u : Value} {n m k j : Nat} (E : Int) (h : Nm w v n k) (h' : Nm w u m j) (hk : k ≤ 1048575) (hj : j ≤ 1048575) (hE : subE n m = E) :
    Calls Tryd.prog 30 #[v, u] w fun e w' => ∃ x, e = .returned (.tuple #[x, .int .i64 E]) ∧ Cn w' x (n - m) ∧ Keep w w' := hE ▸ sub_n h h' hk hj
theorem rsub_e {w : World} {v u : Value} {n m k j : Nat} (E : Int) (h : Nm w v n k) (h' : Nm w u m j) (hk : k ≤ 1048575) (hj : j ≤ 1048575) (hE : subE n m = E) :
    Calls Tryd.prog 31 #[v, u] w fun e w' => ∃ x, e = .returned (.tuple #[x, .int .i64 E]) ∧ Cn w' x (n - m) ∧ Keep w w' := hE ▸ rsub_n h h' hk hj
set_option maxHeartbeats 800000 in
theorem law_sub_small (aa ab : Option Addr) (na pa nb pb : Nat) (la lb : List Nat) (w : World) (ha : Rd w aa na pa la) (hb : Rd w ab nb pb lb) (hT : Tab w) (sa : na ≤ 12) (sb : nb ≤ 12) :
    Calls Tryd.prog 6 #[.slice aa na pa, .slice ab nb pb] w (TPost w) := by
  have ca := ha.le_cap
  have da := ha.cap_le
  have ea := ha.len_eq
  have La := Lib.hid (show Lm w (.slice aa na pa) la from ⟨_, _, _, rfl, ha⟩)
  have cb := hb.le_cap
  have db := hb.cap_le
  have eb := hb.len_eq
  have Lb := Lib.hid (show Lm w (.slice ab nb pb) lb from ⟨_, _, _, rfl, hb⟩)
  have HEa := Lib.hid ea
  have HEb := Lib.hid eb
  have HS1 : Hid (nv la + nv lb < BB ^ 13) := Lib.hid (lt_add (La.out.nm (k := 12) (by omega)).lt (Lb.out.nm (k := 12) (by omega)).lt)
  obtain ⟨E, hE⟩ : ∃ E, subE (nv la) (nv lb) = E := ⟨_, rfl⟩
  have HE := Lib.hid hE
  have HT := Lib.hid hT
  clear ha hb hT ea eb hE
  go_enter Tryd.func6, Tryd.ntmps6
  go_wp2_with fail
  refine Calls.mono (awake_c _ HT.out) ?_
  rintro e w1 ⟨rfl, kk1⟩
  have La_1 := Lib.hid (La.out.keep kk1)
  have Lb_1 := Lib.hid (Lb.out.keep kk1)
  have KW1 : Hid (Keep w w1) := Lib.hid kk1
  clear kk1 La Lb
  go_wp2_with fail
  refine Calls.mono (few_yesk _ _ _ _ _ _ _ (by omega) (by omega)) ?_
  rintro e w2 ⟨rfl, kk2⟩
  have La_2 := Lib.hid (La_1.out.keep kk2)
  have Lb_2 := Lib.hid (Lb_1.out.keep kk2)
  have KW2 := Lib.hid (KW1.out.trans kk2)
  clear kk2 La_1 Lb_1 KW1
  go_wp2_with fail
  refine Calls.mono (sub_e E (La_2.out.nm (k := 12) (by rw [HEa.out]; omega)) (Lb_2.out.nm (k := 12) (by rw [HEb.out]; omega)) (by omega) (by omega) HE.out) ?_
  rintro e w3 ⟨s, rfl, S, kk3⟩
  have La_3 := Lib.hid (La_2.out.keep kk3)
  have Lb_3 := Lib.hid (Lb_2.out.keep kk3)
  have S_3 := Lib.hid S
  have KW3 := Lib.hid (KW2.out.trans kk3)
  clear kk3 La_2 Lb_2 S KW2
  go_wp2_with fail
  refine Calls.mono (rsub_e E (La_3.out.nm (k := 12) (by rw [HEa.out]; omega)) (Lb_3.out.nm (k := 12) (by rw [HEb.out]; omega)) (by omega) (by omega) HE.out) ?_
  rintro e w4 ⟨r, rfl, R, kk4⟩
  have La_4 := Lib.hid (La_3.out.keep kk4)
  have Lb_4 := Lib.hid (Lb_3.out.keep kk4)
  have S_4 := Lib.hid (S_3.out.keep kk4)
  have R_4 := Lib.hid R
  have KW4 := Lib.hid (KW3.out.trans kk4)
  clear kk4 La_3 Lb_3 S_3 R KW3
  go_wp2_with fail
  refine Calls.mono (add_n (La_4.out.nm (k := 12) (by rw [HEa.out]; omega)) (Lb_4.out.nm (k := 12) (by rw [HEb.out]; omega)) (by omega) (by omega)) ?_
  rintro e w5 ⟨q, rfl, Q, kk5⟩
  have La_5 := Lib.hid (La_4.out.keep kk5)
  have Lb_5 := Lib.hid (Lb_4.out.keep kk5)
  have S_5 := Lib.hid (S_4.out.keep kk5)
  have R_5 := Lib.hid (R_4.out.keep kk5)
  have Q_5 := Lib.hid Q
  have KW5 := Lib.hid (KW4.out.trans kk5)
  clear kk5 La_4 Lb_4 S_4 R_4 Q KW4
  go_wp2_with fail
  refine Calls.mono (sub_ge (Q_5.out.nm (k := 13) HS1.out) (Lb_5.out.nm (k := 12) (by rw [HEb.out]; omega)) (by omega) (by omega) (Nat.le_add_left _ _)) ?_
  rintro e w6 ⟨p, rfl, P, kk6⟩
  have La_6 := Lib.hid (La_5.out.keep kk6)
  have S_6 := Lib.hid (S_5.out.keep kk6)
  have R_6 := Lib.hid (R_5.out.keep kk6)
  have P_6 := Lib.hid P
  have KW6 := Lib.hid (KW5.out.trans kk6)
  clear kk6 La_5 S_5 R_5 P KW5
  go_wp2_with fail
  refine Calls.mono (same_t S_6.out R_6.out rfl) ?_
  rintro e w7 ⟨rfl, kk7⟩
  have La_7 := Lib.hid (La_6.out.keep kk7)
  have P_7 := Lib.hid (P_6.out.keep kk7)
  have KW7 := Lib.hid (KW6.out.trans kk7)
  clear kk7 La_6 P_6 KW6
  go_wp2_with fail
  refine Calls.mono (rmake_n (La_7.out.nm (k := 12) (by rw [HEa.out]; omega)) (by omega)) ?_
  rintro e w8 ⟨m, rfl, M, kk8⟩
  have P_8 := Lib.hid (P_7.out.keep kk8)
  have M_8 := Lib.hid M
  have KW8 := Lib.hid (KW7.out.trans kk8)
  clear kk8 P_7 M KW7
  go_wp2_with fail
  refine Calls.mono (same_t P_8.out M_8.out (Nat.add_sub_cancel _ _)) ?_
  rintro e w9 ⟨rfl, kk9⟩
  have KW9 := Lib.hid (KW8.out.trans kk9)
  clear kk9 KW8
  go_wp2_with fail
  go_ret
  exact ⟨rfl, KW9.out⟩
theorem law_sub (aa ab : Option Addr) (na pa nb pb : Nat) (la lb : List Nat) (w : World) (ha : Rd w aa na pa la) (hb : Rd w ab nb pb lb) (hT : Tab w) : Calls Tryd.prog 6 #[.slice aa na pa, .slice ab nb pb] w (TPost w) := by
  by_cases sab : na ≤ 12 ∧ nb ≤ 12
  · exact law_sub_small aa ab na pa nb pb la lb w ha hb hT sab.1 sab.2
  · have da := ha.cap_le
    have ca := ha.le_cap
    have db := hb.cap_le
    have cb := hb.le_cap
    have HT := Lib.hid hT
    have SAB := Lib.hid sab
    clear ha hb hT sab
    go_enter Tryd.func6, Tryd.ntmps6
    go_wp2_with fail
    refine Calls.mono (awake_c _ HT.out) ?_
    rintro e w1 ⟨rfl, k1⟩
    go_wp2_with fail
    refine Calls.mono (few_no _ _ _ _ _ _ _ SAB.out (by omega) (by omega)) ?_
    rintro e w2 ⟨rfl, rfl⟩
    go_wp2_with fail
    go_ret
    exact ⟨rfl, k1⟩
set_option maxHeartbeats 800000 in
theorem law_cmp_0 (aa ab ac : Option Addr) (na pa nb pb nc pc : Nat) (la lb lc : List Nat) (w : World) (ha : Rd w aa na pa la) (hb : Rd w ab nb pb lb) (hc : Rd w ac nc pc lc) (hT : Tab w) (sa : na ≤ 12) (sb : nb ≤ 12) (sc : nc ≤ 12) (X Y Z V : Int) (HX : Hid (cmpv (nv la) (nv lb) = X)) (HY : Hid (cmpv (nv lb) (nv lc) = Y)) (HZ : Hid (cmpv (nv lb) (nv la) = Z)) (HV : Hid (cmpv (nv la) (nv lc) = V))
    (z1 : -1 ≤ Z) (z2 : Z ≤ 1) (hne : (X != -Z) = false) (hx : decide (X ≤ 0) = false) :
    Calls Tryd.prog 4 #[.slice aa na pa, .slice ab nb pb, .slice ac nc pc] w (TPost w) := by
  have ca := ha.le_cap
  have da := ha.cap_le
  have ea := ha.len_eq
  have La := Lib.hid (show Lm w (.slice aa na pa) la from ⟨_, _, _, rfl, ha⟩)
  have cb := hb.le_cap
  have db := hb.cap_le
  have eb := hb.len_eq
  have Lb := Lib.hid (show Lm w (.slice ab nb pb) lb from ⟨_, _, _, rfl, hb⟩)
  have cc := hc.le_cap
  have dc := hc.cap_le
  have ec := hc.len_eq
  have Lc := Lib.hid (show Lm w (.slice ac nc pc) lc from ⟨_, _, _, rfl, hc⟩)
  have HEa := Lib.hid ea
  have HEb := Lib.hid eb
  have HEc := Lib.hid ec
  have HS1 : Hid (nv la + nv lc < BB ^ 13) := Lib.hid (lt_add (La.out.nm (k := 12) (by omega)).lt (Lc.out.nm (k := 12) (by omega)).lt)
  have HS2 : Hid (nv lb + nv lc < BB ^ 13) := Lib.hid (lt_add (Lb.out.nm (k := 12) (by omega)).lt (Lc.out.nm (k := 12) (by omega)).lt)
  have HXX : Hid (cmpv (nv la + nv lc) (nv lb + nv lc) = X) := Lib.hid (by rw [← HX.out]; unfold cmpv; simp)
  have HT := Lib.hid hT
  clear ha hb hc hT ea eb ec
  go_enter Tryd.func4, Tryd.ntmps4
  go_wp2_with fail
  refine Calls.mono (awake_c _ HT.out) ?_
  rintro e w1 ⟨rfl, kk1⟩
  have La_1 := Lib.hid (La.out.keep kk1)
  have Lb_1 := Lib.hid (Lb.out.keep kk1)
  have Lc_1 := Lib.hid (Lc.out.keep kk1)
  have KW1 : Hid (Keep w w1) := Lib.hid kk1
  clear kk1 La Lb Lc
  go_wp2_with fail
  refine Calls.mono (few_yesk _ _ _ _ _ _ _ (by omega) (by omega)) ?_
  rintro e w2 ⟨rfl, kk2⟩
  have La_2 := Lib.hid (La_1.out.keep kk2)
  have Lb_2 := Lib.hid (Lb_1.out.keep kk2)
  have Lc_2 := Lib.hid (Lc_1.out.keep kk2)
  have KW2 := Lib.hid (KW1.out.trans kk2)
  clear kk2 La_1 Lb_1 Lc_1 KW1
  go_wp2_with fail
  refine Calls.mono (cmp_v X (La_2.out.nm (k := 12) (by rw [HEa.out]; omega)) (Lb_2.out.nm (k := 12) (by rw [HEb.out]; omega)) HX.out) ?_
  rintro e w3 ⟨rfl, kk3⟩
  have La_3 := Lib.hid (La_2.out.keep kk3)
  have Lb_3 := Lib.hid (Lb_2.out.keep kk3)
  have Lc_3 := Lib.hid (Lc_2.out.keep kk3)
  have KW3 := Lib.hid (KW2.out.trans kk3)
  clear kk3 La_2 Lb_2 Lc_2 KW2
  go_wp2_with fail
  refine Calls.mono (cmp_v Y (Lb_3.out.nm (k := 12) (by rw [HEb.out]; omega)) (Lc_3.out.nm (k := 12) (by rw [HEc.out]; omega)) HY.out) ?_
  rintro e w4 ⟨rfl, kk4⟩
  have La_4 := Lib.hid (La_3.out.keep kk4)
  have Lb_4 := Lib.hid (Lb_3.out.keep kk4)
  have Lc_4 := Lib.hid (Lc_3.out.keep kk4)
  have KW4 := Lib.hid (KW3.out.trans kk4)
  clear kk4 La_3 Lb_3 Lc_3 KW3
  go_wp2_with fail
  refine Calls.mono (rcmp_v X (La_4.out.nm (k := 12) (by rw [HEa.out]; omega)) (Lb_4.out.nm (k := 12) (by rw [HEb.out]; omega)) HX.out) ?_
  rintro e w5 ⟨rfl, kk5⟩
  have La_5 := Lib.hid (La_4.out.keep kk5)
  have Lb_5 := Lib.hid (Lb_4.out.keep kk5)
  have Lc_5 := Lib.hid (Lc_4.out.keep kk5)
  have KW5 := Lib.hid (KW4.out.trans kk5)
  clear kk5 La_4 Lb_4 Lc_4 KW4
  go_wp2_with fail
  refine Calls.mono (cmp_v Z (Lb_5.out.nm (k := 12) (by rw [HEb.out]; omega)) (La_5.out.nm (k := 12) (by rw [HEa.out]; omega)) HZ.out) ?_
  rintro e w6 ⟨rfl, kk6⟩
  have La_6 := Lib.hid (La_5.out.keep kk6)
  have Lb_6 := Lib.hid (Lb_5.out.keep kk6)
  have Lc_6 := Lib.hid (Lc_5.out.keep kk6)
  have KW6 := Lib.hid (KW5.out.trans kk6)
  clear kk6 La_5 Lb_5 Lc_5 KW5
  go_wp2_with fail
  refine Calls.mono (cmp_v 0 (La_6.out.nm (k := 12) (by rw [HEa.out]; omega)) (La_6.out.nm (k := 12) (by rw [HEa.out]; omega)) (cmpv_eq rfl)) ?_
  rintro e w7 ⟨rfl, kk7⟩
  have La_7 := Lib.hid (La_6.out.keep kk7)
  have Lb_7 := Lib.hid (Lb_6.out.keep kk7)
  have Lc_7 := Lib.hid (Lc_6.out.keep kk7)
  have KW7 := Lib.hid (KW6.out.trans kk7)
  clear kk7 La_6 Lb_6 Lc_6 KW6
  go_wp2_with fail
  refine Calls.mono (add_n (La_7.out.nm (k := 12) (by rw [HEa.out]; omega)) (Lc_7.out.nm (k := 12) (by rw [HEc.out]; omega)) (by omega) (by omega)) ?_
  rintro e w8 ⟨s, rfl, S, kk8⟩
  have La_8 := Lib.hid (La_7.out.keep kk8)
  have Lb_8 := Lib.hid (Lb_7.out.keep kk8)
  have Lc_8 := Lib.hid (Lc_7.out.keep kk8)
  have S_8 := Lib.hid S
  have KW8 := Lib.hid (KW7.out.trans kk8)
  clear kk8 La_7 Lb_7 Lc_7 S KW7
  go_wp2_with fail
  refine Calls.mono (add_n (Lb_8.out.nm (k := 12) (by rw [HEb.out]; omega)) (Lc_8.out.nm (k := 12) (by rw [HEc.out]; omega)) (by omega) (by omega)) ?_
  rintro e w9 ⟨r, rfl, R, kk9⟩
  have La_9 := Lib.hid (La_8.out.keep kk9)
  have Lb_9 := Lib.hid (Lb_8.out.keep kk9)
  have Lc_9 := Lib.hid (Lc_8.out.keep kk9)
  have S_9 := Lib.hid (S_8.out.keep kk9)
  have R_9 := Lib.hid R
  have KW9 := Lib.hid (KW8.out.trans kk9)
  clear kk9 La_8 Lb_8 Lc_8 S_8 R KW8
  go_wp2_with fail
  refine Calls.mono (cmp_v X (S_9.out.nm (k := 13) HS1.out) (R_9.out.nm (k := 13) HS2.out) HXX.out) ?_
  rintro e w10 ⟨rfl, kk10⟩
  have La_10 := Lib.hid (La_9.out.keep kk10)
  have Lb_10 := Lib.hid (Lb_9.out.keep kk10)
  have Lc_10 := Lib.hid (Lc_9.out.keep kk10)
  have S_10 := Lib.hid (S_9.out.keep kk10)
  have R_10 := Lib.hid (R_9.out.keep kk10)
  have KW10 := Lib.hid (KW9.out.trans kk10)
  clear kk10 La_9 Lb_9 Lc_9 S_9 R_9 KW9
  go_wp2_with fail
  go_ret
  exact ⟨rfl, KW10.out⟩
set_option maxHeartbeats 800000 in
theorem law_cmp_1 (aa ab ac : Option Addr) (na pa nb pb nc pc : Nat) (la lb lc : List Nat) (w : World) (ha : Rd w aa na pa la) (hb : Rd w ab nb pb lb) (hc : Rd w ac nc pc lc) (hT : Tab w) (sa : na ≤ 12) (sb : nb ≤ 12) (sc : nc ≤ 12) (X Y Z V : Int) (HX : Hid (cmpv (nv la) (nv lb) = X)) (HY : Hid (cmpv (nv lb) (nv lc) = Y)) (HZ : Hid (cmpv (nv lb) (nv la) = Z)) (HV : Hid (cmpv (nv la) (nv lc) = V))
    (z1 : -1 ≤ Z) (z2 : Z ≤ 1) (hne : (X != -Z) = false) (hx : decide (X ≤ 0) = true) (hy : decide (Y ≤ 0) = false) :
    Calls Tryd.prog 4 #[.slice aa na pa, .slice ab nb pb, .slice ac nc pc] w (TPost w) := by
  have ca := ha.le_cap
  have da := ha.cap_le
  have ea := ha.len_eq
  have La := Lib.hid (show Lm w (.slice aa na pa) la from ⟨_, _, _, rfl, ha⟩)
  have cb := hb.le_cap
  have db := hb.cap_le
  have eb := hb.len_eq
  have Lb := Lib.hid (show Lm w (.slice ab nb pb) lb from ⟨_, _, _, rfl, hb⟩)
  have cc := hc.le_cap
  have dc := hc.cap_le
  have ec := hc.len_eq
  have Lc := Lib.hid (show Lm w (.slice ac nc pc) lc from ⟨_, _, _, rfl, hc⟩)
  have HEa := Lib.hid ea
  have HEb := Lib.hid eb
  have HEc := Lib.hid ec
  have HS1 : Hid (nv la + nv lc < BB ^ 13) := Lib.hid (lt_add (La.out.nm (k := 12) (by omega)).lt (Lc.out.nm (k := 12) (by omega)).lt)
  have HS2 : Hid (nv lb + nv lc < BB ^ 13) := Lib.hid (lt_add (Lb.out.nm (k := 12) (by omega)).lt (Lc.out.nm (k := 12) (by omega)).lt)
  have HXX : Hid (cmpv (nv la + nv lc) (nv lb + nv lc) = X) := Lib.hid (by rw [← HX.out]; unfold cmpv; simp)
  have HT := Lib.hid hT
  clear ha hb hc hT ea eb ec
  go_enter Tryd.func4, Tryd.ntmps4
  go_wp2_with fail
  refine Calls.mono (awake_c _ HT.out) ?_
  rintro e w1 ⟨rfl, kk1⟩
  have La_1 := Lib.hid (La.out.keep kk1)
  have Lb_1 := Lib.hid (Lb.out.keep kk1)
  have Lc_1 := Lib.hid (Lc.out.keep kk1)
  have KW1 : Hid (Keep w w1) := Lib.hid kk1
  clear kk1 La Lb Lc
  go_wp2_with fail
  refine Calls.mono (few_yesk _ _ _ _ _ _ _ (by omega) (by omega)) ?_
  rintro e w2 ⟨rfl, kk2⟩
  have La_2 := Lib.hid (La_1.out.keep kk2)
  have Lb_2 := Lib.hid (Lb_1.out.keep kk2)
  have Lc_2 := Lib.hid (Lc_1.out.keep kk2)
  have KW2 := Lib.hid (KW1.out.trans kk2)
  clear kk2 La_1 Lb_1 Lc_1 KW1
  go_wp2_with fail
  refine Calls.mono (cmp_v X (La_2.out.nm (k := 12) (by rw [HEa.out]; omega)) (Lb_2.out.nm (k := 12) (by rw [HEb.out]; omega)) HX.out) ?_
  rintro e w3 ⟨rfl, kk3⟩
  have La_3 := Lib.hid (La_2.out.keep kk3)
  have Lb_3 := Lib.hid (Lb_2.out.keep kk3)
  have Lc_3 := Lib.hid (Lc_2.out.keep kk3)
  have KW3 := Lib.hid (KW2.out.trans kk3)
  clear kk3 La_2 Lb_2 Lc_2 KW2
  go_wp2_with fail
  refine Calls.mono (cmp_v Y (Lb_3.out.nm (k := 12) (by rw [HEb.out]; omega)) (Lc_3.out.nm (k := 12) (by rw [HEc.out]; omega)) HY.out) ?_
  rintro e w4 ⟨rfl, kk4⟩
  have La_4 := Lib.hid (La_3.out.keep kk4)
  have Lb_4 := Lib.hid (Lb_3.out.keep kk4)
  have Lc_4 := Lib.hid (Lc_3.out.keep kk4)
  have KW4 := Lib.hid (KW3.out.trans kk4)
  clear kk4 La_3 Lb_3 Lc_3 KW3
  go_wp2_with fail
  refine Calls.mono (rcmp_v X (La_4.out.nm (k := 12) (by rw [HEa.out]; omega)) (Lb_4.out.nm (k := 12) (by rw [HEb.out]; omega)) HX.out) ?_
  rintro e w5 ⟨rfl, kk5⟩
  have La_5 := Lib.hid (La_4.out.keep kk5)
  have Lb_5 := Lib.hid (Lb_4.out.keep kk5)
  have Lc_5 := Lib.hid (Lc_4.out.keep kk5)
  have KW5 := Lib.hid (KW4.out.trans kk5)
  clear kk5 La_4 Lb_4 Lc_4 KW4
  go_wp2_with fail
  refine Calls.mono (cmp_v Z (Lb_5.out.nm (k := 12) (by rw [HEb.out]; omega)) (La_5.out.nm (k := 12) (by rw [HEa.out]; omega)) HZ.out) ?_
  rintro e w6 ⟨rfl, kk6⟩
  have La_6 := Lib.hid (La_5.out.keep kk6)
  have Lb_6 := Lib.hid (Lb_5.out.keep kk6)
  have Lc_6 := Lib.hid (Lc_5.out.keep kk6)
  have KW6 := Lib.hid (KW5.out.trans kk6)
  clear kk6 La_5 Lb_5 Lc_5 KW5
  go_wp2_with fail
  refine Calls.mono (cmp_v 0 (La_6.out.nm (k := 12) (by rw [HEa.out]; omega)) (La_6.out.nm (k := 12) (by rw [HEa.out]; omega)) (cmpv_eq rfl)) ?_
  rintro e w7 ⟨rfl, kk7⟩
  have La_7 := Lib.hid (La_6.out.keep kk7)
  have Lb_7 := Lib.hid (Lb_6.out.keep kk7)
  have Lc_7 := Lib.hid (Lc_6.out.keep kk7)
  have KW7 := Lib.hid (KW6.out.trans kk7)
  clear kk7 La_6 Lb_6 Lc_6 KW6
  go_wp2_with fail
  refine Calls.mono (add_n (La_7.out.nm (k := 12) (by rw [HEa.out]; omega)) (Lc_7.out.nm (k := 12) (by rw [HEc.out]; omega)) (by omega) (by omega)) ?_
  rintro e w8 ⟨s, rfl, S, kk8⟩
  have La_8 := Lib.hid (La_7.out.keep kk8)
  have Lb_8 := Lib.hid (Lb_7.out.keep kk8)
  have Lc_8 := Lib.hid (Lc_7.out.keep kk8)
  have S_8 := Lib.hid S
  have KW8 := Lib.hid (KW7.out.trans kk8)
  clear kk8 La_7 Lb_7 Lc_7 S KW7
  go_wp2_with fail
  refine Calls.mono (add_n (Lb_8.out.nm (k := 12) (by rw [HEb.out]; omega)) (Lc_8.out.nm (k := 12) (by rw [HEc.out]; omega)) (by omega) (by omega)) ?_
  rintro e w9 ⟨r, rfl, R, kk9⟩
  have La_9 := Lib.hid (La_8.out.keep kk9)
  have Lb_9 := Lib.hid (Lb_8.out.keep kk9)
  have Lc_9 := Lib.hid (Lc_8.out.keep kk9)
  have S_9 := Lib.hid (S_8.out.keep kk9)
  have R_9 := Lib.hid R
  have KW9 := Lib.hid (KW8.out.trans kk9)
  clear kk9 La_8 Lb_8 Lc_8 S_8 R KW8
  go_wp2_with fail
  refine Calls.mono (cmp_v X (S_9.out.nm (k := 13) HS1.out) (R_9.out.nm (k := 13) HS2.out) HXX.out) ?_
  rintro e w10 ⟨rfl, kk10⟩
  have La_10 := Lib.hid (La_9.out.keep kk10)
  have Lb_10 := Lib.hid (Lb_9.out.keep kk10)
  have Lc_10 := Lib.hid (Lc_9.out.keep kk10)
  have S_10 := Lib.hid (S_9.out.keep kk10)
  have R_10 := Lib.hid (R_9.out.keep kk10)
  have KW10 := Lib.hid (KW9.out.trans kk10)
  clear kk10 La_9 Lb_9 Lc_9 S_9 R_9 KW9
  go_wp2_with fail
  go_ret
  exact ⟨rfl, KW10.out⟩
set_option maxHeartbeats 800000 in
theorem law_cmp_2 (aa ab ac : Option Addr) (na pa nb pb nc pc : Nat) (la lb lc : List Nat) (w : World) (ha : Rd w aa na pa la) (hb : Rd w ab nb pb lb) (hc : Rd w ac nc pc lc) (hT : Tab w) (sa : na ≤ 12) (sb : nb ≤ 12) (sc : nc ≤ 12) (X Y Z V : Int) (HX : Hid (cmpv (nv la) (nv lb) = X)) (HY : Hid (cmpv (nv lb) (nv lc) = Y)) (HZ : Hid (cmpv (nv lb) (nv la) = Z)) (HV : Hid (cmpv (nv la) (nv lc) = V))
    (z1 : -1 ≤ Z) (z2 : Z ≤ 1) (hne : (X != -Z) = false) (hx : decide (X ≤ 0) = true) (hy : decide (Y ≤ 0) = true) (hv : decide (0 < V) = false) :
    Calls Tryd.prog 4 #[.slice aa na pa, .slice ab nb pb, .slice ac nc pc] w (TPost w) := by
  have ca := ha.le_cap
  have da := ha.cap_le
  have ea := ha.len_eq
  have La := Lib.hid (show Lm w (.slice aa na pa) la from ⟨_, _, _, rfl, ha⟩)
  have cb := hb.le_cap
  have db := hb.cap_le
  have eb := hb.len_eq
  have Lb := Lib.hid (show Lm w (.slice ab nb pb) lb from ⟨_, _, _, rfl, hb⟩)
  have cc := hc.le_cap
  have dc := hc.cap_le
  have ec := hc.len_eq
  have Lc := Lib.hid (show Lm w (.slice ac nc pc) lc from ⟨_, _, _, rfl, hc⟩)
  have HEa := Lib.hid ea
  have HEb := Lib.hid eb
  have HEc := Lib.hid ec
  have HS1 : Hid (nv la + nv lc < BB ^ 13) := Lib.hid (lt_add (La.out.nm (k := 12) (by omega)).lt (Lc.out.nm (k := 12) (by omega)).lt)
  have HS2 : Hid (nv lb + nv lc < BB ^ 13) := Lib.hid (lt_add (Lb.out.nm (k := 12) (by omega)).lt (Lc.out.nm (k := 12) (by omega)).lt)
  have HXX : Hid (cmpv (nv la + nv lc) (nv lb + nv lc) = X) := Lib.hid (by rw [← HX.out]; unfold cmpv; simp)
  have HT := Lib.hid hT
  clear ha hb hc hT ea eb ec
  go_enter Tryd.func4, Tryd.ntmps4
  go_wp2_with fail
  refine Calls.mono (awake_c _ HT.out) ?_
  rintro e w1 ⟨rfl, kk1⟩
  have La_1 := Lib.hid (La.out.keep kk1)
  have Lb_1 := Lib.hid (Lb.out.keep kk1)
  have Lc_1 := Lib.hid (Lc.out.keep kk1)
  have KW1 : Hid (Keep w w1) := Lib.hid kk1
  clear kk1 La Lb Lc
  go_wp2_with fail
  refine Calls.mono (few_yesk _ _ _ _ _ _ _ (by omega) (by omega)) ?_
  rintro e w2 ⟨rfl, kk2⟩
  have La_2 := Lib.hid (La_1.out.keep kk2)
  have Lb_2 := Lib.hid (Lb_1.out.keep kk2)
  have Lc_2 := Lib.hid (Lc_1.out.keep kk2)
  have KW2 := Lib.hid (KW1.out.trans kk2)
  clear kk2 La_1 Lb_1 Lc_1 KW1
  go_wp2_with fail
  refine Calls.mono (cmp_v X (La_2.out.nm (k := 12) (by rw [HEa.out]; omega)) (Lb_2.out.nm (k := 12) (by rw [HEb.out]; omega)) HX.out) ?_
  rintro e w3 ⟨rfl, kk3⟩
  have La_3 := Lib.hid (La_2.out.keep kk3)
  have Lb_3 := Lib.hid (Lb_2.out.keep kk3)
  have Lc_3 := Lib.hid (Lc_2.out.keep kk3)
  have KW3 := Lib.hid (KW2.out.trans kk3)
  clear kk3 La_2 Lb_2 Lc_2 KW2
  go_wp2_with fail
  refine Calls.mono (cmp_v Y (Lb_3.out.nm (k := 12) (by rw [HEb.out]; omega)) (Lc_3.out.nm (k := 12) (by rw [HEc.out]; omega)) HY.out) ?_
  rintro e w4 ⟨rfl, kk4⟩
  have La_4 := Lib.hid (La_3.out.keep kk4)
  have Lb_4 := Lib.hid (Lb_3.out.keep kk4)
  have Lc_4 := Lib.hid (Lc_3.out.keep kk4)
  have KW4 := Lib.hid (KW3.out.trans kk4)
  clear kk4 La_3 Lb_3 Lc_3 KW3
  go_wp2_with fail
  refine Calls.mono (rcmp_v X (La_4.out.nm (k := 12) (by rw [HEa.out]; omega)) (Lb_4.out.nm (k := 12) (by rw [HEb.out]; omega)) HX.out) ?_
  rintro e w5 ⟨rfl, kk5⟩
  have La_5 := Lib.hid (La_4.out.keep kk5)
  have Lb_5 := Lib.hid (Lb_4.out.keep kk5)
  have Lc_5 := Lib.hid (Lc_4.out.keep kk5)
  have KW5 := Lib.hid (KW4.out.trans kk5)
  clear kk5 La_4 Lb_4 Lc_4 KW4
  go_wp2_with fail
  refine Calls.mono (cmp_v Z (Lb_5.out.nm (k := 12) (by rw [HEb.out]; omega)) (La_5.out.nm (k := 12) (by rw [HEa.out]; omega)) HZ.out) ?_
  rintro e w6 ⟨rfl, kk6⟩
  have La_6 := Lib.hid (La_5.out.keep kk6)
  have Lb_6 := Lib.hid (Lb_5.out.keep kk6)
  have Lc_6 := Lib.hid (Lc_5.out.keep kk6)
  have KW6 := Lib.hid (KW5.out.trans kk6)
  clear kk6 La_5 Lb_5 Lc_5 KW5
  go_wp2_with fail
  refine Calls.mono (cmp_v 0 (La_6.out.nm (k := 12) (by rw [HEa.out]; omega)) (La_6.out.nm (k := 12) (by rw [HEa.out]; omega)) (cmpv_eq rfl)) ?_
  rintro e w7 ⟨rfl, kk7⟩
  have La_7 := Lib.hid (La_6.out.keep kk7)
  have Lb_7 := Lib.hid (Lb_6.out.keep kk7)
  have Lc_7 := Lib.hid (Lc_6.out.keep kk7)
  have KW7 := Lib.hid (KW6.out.trans kk7)
  clear kk7 La_6 Lb_6 Lc_6 KW6
  go_wp2_with fail
  refine Calls.mono (cmp_v V (La_7.out.nm (k := 12) (by rw [HEa.out]; omega)) (Lc_7.out.nm (k := 12) (by rw [HEc.out]; omega)) HV.out) ?_
  rintro e w8 ⟨rfl, kk8⟩
  have La_8 := Lib.hid (La_7.out.keep kk8)
  have Lb_8 := Lib.hid (Lb_7.out.keep kk8)
  have Lc_8 := Lib.hid (Lc_7.out.keep kk8)
  have KW8 := Lib.hid (KW7.out.trans kk8)
  clear kk8 La_7 Lb_7 Lc_7 KW7
  go_wp2_with fail
  refine Calls.mono (add_n (La_8.out.nm (k := 12) (by rw [HEa.out]; omega)) (Lc_8.out.nm (k := 12) (by rw [HEc.out]; omega)) (by omega) (by omega)) ?_
  rintro e w9 ⟨s, rfl, S, kk9⟩
  have La_9 := Lib.hid (La_8.out.keep kk9)
  have Lb_9 := Lib.hid (Lb_8.out.keep kk9)
  have Lc_9 := Lib.hid (Lc_8.out.keep kk9)
  have S_9 := Lib.hid S
  have KW9 := Lib.hid (KW8.out.trans kk9)
  clear kk9 La_8 Lb_8 Lc_8 S KW8
  go_wp2_with fail
  refine Calls.mono (add_n (Lb_9.out.nm (k := 12) (by rw [HEb.out]; omega)) (Lc_9.out.nm (k := 12) (by rw [HEc.out]; omega)) (by omega) (by omega)) ?_
  rintro e w10 ⟨r, rfl, R, kk10⟩
  have La_10 := Lib.hid (La_9.out.keep kk10)
  have Lb_10 := Lib.hid (Lb_9.out.keep kk10)
  have Lc_10 := Lib.hid (Lc_9.out.keep kk10)
  have S_10 := Lib.hid (S_9.out.keep kk10)
  have R_10 := Lib.hid R
  have KW10 := Lib.hid (KW9.out.trans kk10)
  clear kk10 La_9 Lb_9 Lc_9 S_9 R KW9
  go_wp2_with fail
  refine Calls.mono (cmp_v X (S_10.out.nm (k := 13) HS1.out) (R_10.out.nm (k := 13) HS2.out) HXX.out) ?_
  rintro e w11 ⟨rfl, kk11⟩
  have La_11 := Lib.hid (La_10.out.keep kk11)
  have Lb_11 := Lib.hid (Lb_10.out.keep kk11)
  have Lc_11 := Lib.hid (Lc_10.out.keep kk11)
  have S_11 := Lib.hid (S_10.out.keep kk11)
  have R_11 := Lib.hid (R_10.out.keep kk11)
  have KW11 := Lib.hid (KW10.out.trans kk11)
  clear kk11 La_10 Lb_10 Lc_10 S_10 R_10 KW10
  go_wp2_with fail
  go_ret
  exact ⟨rfl, KW11.out⟩
theorem cmpv_bd (a b : Nat) : -1 ≤ cmpv a b ∧ cmpv a b ≤ 1 := by unfold cmpv; split <;> (try split) <;> omega
theorem cmpv_le {a b : Nat} (h : cmpv a b ≤ 0) : a ≤ b := by unfold cmpv at h; split at h <;> (try split at h) <;> omega
theorem cmpv_le' {a b : Nat} (h : a ≤ b) : cmpv a b ≤ 0 := by unfold cmpv; split <;> (try split) <;> omega
theorem law_cmp_small (aa ab ac : Option Addr) (na pa nb pb nc pc : Nat) (la lb lc : List Nat) (w : World) (ha : Rd w aa na pa la) (hb : Rd w ab nb pb lb) (hc : Rd w ac nc pc lc) (hT : Tab w) (sa : na ≤ 12) (sb : nb ≤ 12) (sc : nc ≤ 12) : Calls Tryd.prog 4 #[.slice aa na pa, .slice ab nb pb, .slice ac nc pc] w (TPost w) := by
  have hb1 := cmpv_bd (nv lb) (nv la)
  have hn : (cmpv (nv la) (nv lb) != - cmpv (nv lb) (nv la)) = false := by rw [← cmpv_neg]; simp
  by_cases hx : cmpv (nv la) (nv lb) ≤ 0
  · by_cases hy : cmpv (nv lb) (nv lc) ≤ 0
    · exact law_cmp_2 aa ab ac na pa nb pb nc pc la lb lc w ha hb hc hT sa sb sc _ _ _ _ (Lib.hid rfl) (Lib.hid rfl) (Lib.hid rfl) (Lib.hid rfl) hb1.1 hb1.2 hn (decide_eq_true hx) (decide_eq_true hy)
        (decide_eq_false (by have := cmpv_le' (Nat.le_trans (cmpv_le hx) (cmpv_le hy)); omega))
    · exact law_cmp_1 aa ab ac na pa nb pb nc pc la lb lc w ha hb hc hT sa sb sc _ _ _ _ (Lib.hid rfl) (Lib.hid rfl) (Lib.hid rfl) (Lib.hid rfl) hb1.1 hb1.2 hn (decide_eq_true hx) (decide_eq_false hy)
  · exact law_cmp_0 aa ab ac na pa nb pb nc pc la lb lc w ha hb hc hT sa sb sc _ _ _ _ (Lib.hid rfl) (Lib.hid rfl) (Lib.hid rfl) (Lib.hid rfl) hb1.1 hb1.2 hn (decide_eq_false hx)
theorem law_cmp (aa ab ac : Option Addr) (na pa nb pb nc pc : Nat) (la lb lc : List Nat) (w : World) (ha : Rd w aa na pa la) (hb : Rd w ab nb pb lb) (hc : Rd w ac nc pc lc) (hT : Tab w) : Calls Tryd.prog 4 #[.slice aa na pa, .slice ab nb pb, .slice ac nc pc] w (TPost w) := by
  by_cases sab : na ≤ 12 ∧ nb ≤ 12
  · by_cases sc : nc ≤ 12
    · exact law_cmp_small aa ab ac na pa nb pb nc pc la lb lc w ha hb hc hT sab.1 sab.2 sc
    · have dc := hc.cap_le
      have cc := hc.le_cap
      have HT := Lib.hid hT
      have sa := sab.1
      have sb := sab.2
      clear ha hb hc hT sab
      go_enter Tryd.func4, Tryd.ntmps4
      go_wp2_with fail
      refine Calls.mono (awake_c _ HT.out) ?_
      rintro e w1 ⟨rfl, k1⟩
      go_wp2_with fail
      refine Calls.mono (few_yes _ _ _ _ _ _ _ sa sb) ?_
      rintro e w2 ⟨rfl, rfl⟩
      go_wp2_with fail
      go_ret
      exact ⟨rfl, k1⟩
  · have da := ha.cap_le
    have ca := ha.le_cap
    have db := hb.cap_le
    have cb := hb.le_cap
    have HT := Lib.hid hT
    have SAB := Lib.hid sab
    clear ha hb hc hT sab
    go_enter Tryd.func4, Tryd.ntmps4
    go_wp2_with fail
    refine Calls.mono (awake_c _ HT.out) ?_
    rintro e w1 ⟨rfl, k1⟩
    go_wp2_with fail
    refine Calls.mono (few_no _ _ _ _ _ _ _ SAB.out (by omega) (by omega)) ?_
    rintro e w2 ⟨rfl, rfl⟩
    go_wp2_with fail
    go_ret
    exact ⟨rfl, k1⟩
set_option maxHeartbeats 800000 in
theorem law_make_small (aa : Option Addr) (na pa x : Nat) (la : List Nat) (w : World) (ha : Rd w aa na pa la) (hx : x < 18446744073709551616) (hT : Tab w) (sa : na ≤ 40) :
    Calls Tryd.prog 3 #[.slice aa na pa, .int .u64 x] w (TPost w) := by
  have ca := ha.le_cap
  have da := ha.cap_le
  have ea := ha.len_eq
  have La := Lib.hid (show Lm w (.slice aa na pa) la from ⟨_, _, _, rfl, ha⟩)
  have HEa := Lib.hid ea
  have HX2 : Hid (x < BB ^ 2) := Lib.hid (by rw [show BB ^ 2 = 18446744073709551616 from by decide]; exact hx)
  obtain ⟨U, hU⟩ : ∃ U, uintV (nv la) = U := ⟨_, rfl⟩
  obtain ⟨B, hB⟩ : ∃ B, uintB (nv la) = B := ⟨_, rfl⟩
  obtain ⟨V, hV⟩ : ∃ V, canB la = V := ⟨_, rfl⟩
  obtain ⟨T, hTT⟩ : ∃ T, bl (nv la) = T := ⟨_, rfl⟩
  have HU := Lib.hid hU
  have HB := Lib.hid hB
  have HV := Lib.hid hV
  have HTT := Lib.hid hTT
  have HT := Lib.hid hT
  clear ha hT ea hU hB hV hTT
  go_enter Tryd.func3, Tryd.ntmps3
  go_wp2_with fail
  refine Calls.mono (awake_c _ HT.out) ?_
  rintro e w1 ⟨rfl, kk1⟩
  have La_1 := Lib.hid (La.out.keep kk1)
  have KW1 : Hid (Keep w w1) := Lib.hid kk1
  clear kk1 La
  go_wp2_with fail
  refine Calls.mono (copied_n La_1.out (by rw [HEa.out]; omega)) ?_
  rintro e w2 ⟨c, rfl, C, kk2⟩
  have La_2 := Lib.hid (La_1.out.keep kk2)
  have C_2 := Lib.hid C
  have KW2 := Lib.hid (KW1.out.trans kk2)
  clear kk2 La_1 C KW1
  go_wp2_with fail
  refine Calls.mono (make_n (C_2.out.nm (k := 40) (by rw [HEa.out]; omega)) (by omega)) ?_
  rintro e w3 ⟨m, rfl, M, kk3⟩
  have La_3 := Lib.hid (La_2.out.keep kk3)
  have M_3 := Lib.hid M
  have KW3 := Lib.hid (KW2.out.trans kk3)
  clear kk3 La_2 M KW2
  go_wp2_with fail
  refine Calls.mono (uint_e U B (La_3.out.nm (k := 40) (by rw [HEa.out]; omega)) HU.out HB.out) ?_
  rintro e w4 ⟨rfl, kk4⟩
  have La_4 := Lib.hid (La_3.out.keep kk4)
  have M_4 := Lib.hid (M_3.out.keep kk4)
  have KW4 := Lib.hid (KW3.out.trans kk4)
  clear kk4 La_3 M_3 KW3
  go_wp2_with fail
  refine Calls.mono (ruint_e U B (La_4.out.nm (k := 40) (by rw [HEa.out]; omega)) (by omega) HU.out HB.out) ?_
  rintro e w5 ⟨rfl, kk5⟩
  have La_5 := Lib.hid (La_4.out.keep kk5)
  have M_5 := Lib.hid (M_4.out.keep kk5)
  have KW5 := Lib.hid (KW4.out.trans kk5)
  clear kk5 La_4 M_4 KW4
  go_wp2_with fail
  refine Calls.mono (rmake_n (La_5.out.nm (k := 40) (by rw [HEa.out]; omega)) (by omega)) ?_
  rintro e w6 ⟨r, rfl, R, kk6⟩
  have La_6 := Lib.hid (La_5.out.keep kk6)
  have M_6 := Lib.hid (M_5.out.keep kk6)
  have R_6 := Lib.hid R
  have KW6 := Lib.hid (KW5.out.trans kk6)
  clear kk6 La_5 M_5 R KW5
  go_wp2_with fail
  refine Calls.mono (same_t M_6.out R_6.out rfl) ?_
  rintro e w7 ⟨rfl, kk7⟩
  have La_7 := Lib.hid (La_6.out.keep kk7)
  have M_7 := Lib.hid (M_6.out.keep kk7)
  have KW7 := Lib.hid (KW6.out.trans kk7)
  clear kk7 La_6 M_6 KW6
  go_wp2_with fail
  refine Calls.mono (valid_e V La_7.out HV.out) ?_
  rintro e w8 ⟨rfl, kk8⟩
  have La_8 := Lib.hid (La_7.out.keep kk8)
  have M_8 := Lib.hid (M_7.out.keep kk8)
  have KW8 := Lib.hid (KW7.out.trans kk8)
  clear kk8 La_7 M_7 KW7
  go_wp2_with fail
  refine Calls.mono (rvalid_e V La_8.out HV.out) ?_
  rintro e w9 ⟨rfl, kk9⟩
  have La_9 := Lib.hid (La_8.out.keep kk9)
  have M_9 := Lib.hid (M_8.out.keep kk9)
  have KW9 := Lib.hid (KW8.out.trans kk9)
  clear kk9 La_8 M_8 KW8
  go_wp2_with fail
  refine Calls.mono (valid_t M_9.out) ?_
  rintro e w10 ⟨rfl, kk10⟩
  have La_10 := Lib.hid (La_9.out.keep kk10)
  have KW10 := Lib.hid (KW9.out.trans kk10)
  clear kk10 La_9 KW9
  go_wp2_with fail
  refine Calls.mono (bits_e T (La_10.out.nm (k := 40) (by rw [HEa.out]; omega)) (by omega) HTT.out) ?_
  rintro e w11 ⟨rfl, kk11⟩
  have La_11 := Lib.hid (La_10.out.keep kk11)
  have KW11 := Lib.hid (KW10.out.trans kk11)
  clear kk11 La_10 KW10
  go_wp2_with fail
  refine Calls.mono (rbits_e T (La_11.out.nm (k := 40) (by rw [HEa.out]; omega)) (by omega) HTT.out) ?_
  rintro e w12 ⟨rfl, kk12⟩
  have KW12 := Lib.hid (KW11.out.trans kk12)
  clear kk12 KW11
  go_wp2_with fail
  refine Calls.mono (of_n x hx) ?_
  rintro e w13 ⟨o, rfl, O, kk13⟩
  have O_13 := Lib.hid O
  have KW13 := Lib.hid (KW12.out.trans kk13)
  clear kk13 O KW12
  go_wp2_with fail
  refine Calls.mono (uint_v (O_13.out.nm (k := 2) HX2.out) hx) ?_
  rintro e w14 ⟨rfl, kk14⟩
  have KW14 := Lib.hid (KW13.out.trans kk14)
  clear kk14 KW13
  go_wp2_with fail
  refine Calls.mono (of_n x hx) ?_
  rintro e w15 ⟨o2, rfl, O2, kk15⟩
  have O2_15 := Lib.hid O2
  have KW15 := Lib.hid (KW14.out.trans kk15)
  clear kk15 O2 KW14
  go_wp2_with fail
  refine Calls.mono (rof_n x hx) ?_
  rintro e w16 ⟨o3, rfl, O3, kk16⟩
  have O2_16 := Lib.hid (O2_15.out.keep kk16)
  have O3_16 := Lib.hid O3
  have KW16 := Lib.hid (KW15.out.trans kk16)
  clear kk16 O2_15 O3 KW15
  go_wp2_with fail
  refine Calls.mono (same_t O2_16.out O3_16.out rfl) ?_
  rintro e w17 ⟨rfl, kk17⟩
  have O2_17 := Lib.hid (O2_16.out.keep kk17)
  have O3_17 := Lib.hid (O3_16.out.keep kk17)
  have KW17 := Lib.hid (KW16.out.trans kk17)
  clear kk17 O2_16 O3_16 KW16
  go_wp2_with fail
  go_ret
  exact ⟨rfl, KW17.out⟩
theorem law_make (aa : Option Addr) (na pa x : Nat) (la : List Nat) (w : World) (ha : Rd w aa na pa la) (hx : x < 18446744073709551616) (hT : Tab w) : Calls Tryd.prog 3 #[.slice aa na pa, .int .u64 x] w (TPost w) := by
  by_cases sa : na ≤ 40
  · exact law_make_small aa na pa x la w ha hx hT sa
  · have da := ha.cap_le
    have ca := ha.le_cap
    have HT := Lib.hid hT
    clear ha hT
    go_enter Tryd.func3, Tryd.ntmps3
    go_wp2_with fail
    refine Calls.mono (awake_c _ HT.out) ?_
    rintro e w1 ⟨rfl, k1⟩
    go_wp2_with fail
    go_ret
    exact ⟨rfl, k1⟩
end Go.Proofs.YtgoiechhhnhgaaaDoor
