/- The laws of layer 1, walked: addition, subtraction. -/
import Derived.Test.YtgoiechhhnhgaaaDoorH2
namespace Go.Proofs.YtgoiechhhnhgaaaDoor
open Go.RowKit
set_option linter.unusedVariables false
theorem lt_add {n m k : Nat} (h : n < BB ^ k) (h' : m < BB ^ k) : n + m < BB ^ (k + 1) := by
  rw [Nat.pow_succ]
  have : 2 ≤ BB := by decide
  have := Nat.mul_le_mul_left (BB ^ k) this
  omega
theorem lt_up {n k j : Nat} (h : n < BB ^ k) (hj : k ≤ j) : n < BB ^ j := Nat.lt_of_lt_of_le h (Nat.pow_le_pow_right BB_pos hj)
theorem few_yesk (a a' : Option Addr) (n c m d : Nat) (w : World) (h : n ≤ 12) (h' : m ≤ 12) : Calls Tryd.prog 25 #[.slice a n c, .slice a' m d] w fun e w' => e = .returned (.bool true) ∧ Keep w w' := (few_yes a a' n c m d w h h').mono fun _ _ ⟨h1, h2⟩ => ⟨h1, h2 ▸ Keep.refl _⟩
theorem few_nok (a a' : Option Addr) (n c m d : Nat) (w : World) (h : ¬ (n ≤ 12 ∧ m ≤ 12)) (hn : n ≤ 9223372036854775807) (hm : m ≤ 9223372036854775807) : Calls Tryd.prog 25 #[.slice a n c, .slice a' m d] w fun e w' => e = .returned (.bool false) ∧ Keep w w' := (few_no a a' n c m d w h hn hm).mono fun _ _ ⟨h1, h2⟩ => ⟨h1, h2 ▸ Keep.refl _⟩
set_option maxHeartbeats 800000 in
theorem law_add_small (aa ab ac : Option Addr) (na pa nb pb nc pc : Nat) (la lb lc : List Nat) (w : World) (ha : Rd w aa na pa la) (hb : Rd w ab nb pb lb) (hc : Rd w ac nc pc lc) (hT : Tab w) (sa : na ≤ 12) (sb : nb ≤ 12) (sc : nc ≤ 12) :
    Calls Tryd.prog 5 #[.slice aa na pa, .slice ab nb pb, .slice ac nc pc] w (TPost w) := by
  have ca := ha.le_cap
  have da := ha.cap_le
  have ea := ha.len_eq
  have La := Lib.hid (show Lm w (.slice aa na pa) la from ⟨_, _, _, rfl, ha⟩)
  have cb := hb.le_cap
  have db := hb.cap_le
  have eb := hb.len_eq
  have Lb := Lib.hid (show Lm w (.slice ab nb pb) lb from ⟨_, _, _, rfl, hb⟩)
  have cc := hc.le_cap
  have dc := hc.cap_le
  have ec := hc.len_eq
  have Lc := Lib.hid (show Lm w (.slice ac nc pc) lc from ⟨_, _, _, rfl, hc⟩)
  have HEa := Lib.hid ea
  have HEb := Lib.hid eb
  have HEc := Lib.hid ec
  have HS1 : Hid (nv la + nv lb < BB ^ 13) := Lib.hid (lt_add (La.out.nm (k := 12) (by omega)).lt (Lb.out.nm (k := 12) (by omega)).lt)
  have HS2 : Hid (nv lb + nv lc < BB ^ 13) := Lib.hid (lt_add (Lb.out.nm (k := 12) (by omega)).lt (Lc.out.nm (k := 12) (by omega)).lt)
  have HT := Lib.hid hT
  clear ha hb hc hT ea eb ec
  go_enter Tryd.func5, Tryd.ntmps5
  go_wp2_with fail
  refine Calls.mono (awake_c _ HT.out) ?_
  rintro e w1 ⟨rfl, kk1⟩
  have La_1 := Lib.hid (La.out.keep kk1)
  have Lb_1 := Lib.hid (Lb.out.keep kk1)
  have Lc_1 := Lib.hid (Lc.out.keep kk1)
  have KW1 : Hid (Keep w w1) := Lib.hid kk1
  clear kk1 La Lb Lc
  go_wp2_with fail
  refine Calls.mono (few_yesk _ _ _ _ _ _ _ (by omega) (by omega)) ?_
  rintro e w2 ⟨rfl, kk2⟩
  have La_2 := Lib.hid (La_1.out.keep kk2)
  have Lb_2 := Lib.hid (Lb_1.out.keep kk2)
  have Lc_2 := Lib.hid (Lc_1.out.keep kk2)
  have KW2 := Lib.hid (KW1.out.trans kk2)
  clear kk2 La_1 Lb_1 Lc_1 KW1
  go_wp2_with fail
  refine Calls.mono (copied_n La_2.out (by rw [HEa.out]; omega)) ?_
  rintro e w3 ⟨ua, rfl, Ua, kk3⟩
  have La_3 := Lib.hid (La_2.out.keep kk3)
  have Lb_3 := Lib.hid (Lb_2.out.keep kk3)
  have Lc_3 := Lib.hid (Lc_2.out.keep kk3)
  have Ua_3 := Lib.hid Ua
  have KW3 := Lib.hid (KW2.out.trans kk3)
  clear kk3 La_2 Lb_2 Lc_2 Ua KW2
  go_wp2_with fail
  refine Calls.mono (copied_n Lb_3.out (by rw [HEb.out]; omega)) ?_
  rintro e w4 ⟨ub, rfl, Ub, kk4⟩
  have La_4 := Lib.hid (La_3.out.keep kk4)
  have Lb_4 := Lib.hid (Lb_3.out.keep kk4)
  have Lc_4 := Lib.hid (Lc_3.out.keep kk4)
  have Ua_4 := Lib.hid (Ua_3.out.keep kk4)
  have Ub_4 := Lib.hid Ub
  have KW4 := Lib.hid (KW3.out.trans kk4)
  clear kk4 La_3 Lb_3 Lc_3 Ua_3 Ub KW3
  go_wp2_with fail
  refine Calls.mono (add_n (Ua_4.out.nm (k := 12) (by rw [HEa.out]; omega)) (Ub_4.out.nm (k := 12) (by rw [HEb.out]; omega)) (by omega) (by omega)) ?_
  rintro e w5 ⟨s, rfl, S, kk5⟩
  have La_5 := Lib.hid (La_4.out.keep kk5)
  have Lb_5 := Lib.hid (Lb_4.out.keep kk5)
  have Lc_5 := Lib.hid (Lc_4.out.keep kk5)
  have S_5 := Lib.hid S
  have KW5 := Lib.hid (KW4.out.trans kk5)
  clear kk5 La_4 Lb_4 Lc_4 S KW4
  go_wp2_with fail
  refine Calls.mono (radd_n (La_5.out.nm (k := 12) (by rw [HEa.out]; omega)) (Lb_5.out.nm (k := 12) (by rw [HEb.out]; omega)) (by omega) (by omega)) ?_
  rintro e w6 ⟨r, rfl, R, kk6⟩
  have La_6 := Lib.hid (La_5.out.keep kk6)
  have Lb_6 := Lib.hid (Lb_5.out.keep kk6)
  have Lc_6 := Lib.hid (Lc_5.out.keep kk6)
  have S_6 := Lib.hid (S_5.out.keep kk6)
  have R_6 := Lib.hid R
  have KW6 := Lib.hid (KW5.out.trans kk6)
  clear kk6 La_5 Lb_5 Lc_5 S_5 R KW5
  go_wp2_with fail
  refine Calls.mono (same_t S_6.out R_6.out rfl) ?_
  rintro e w7 ⟨rfl, kk7⟩
  have La_7 := Lib.hid (La_6.out.keep kk7)
  have Lb_7 := Lib.hid (Lb_6.out.keep kk7)
  have Lc_7 := Lib.hid (Lc_6.out.keep kk7)
  have S_7 := Lib.hid (S_6.out.keep kk7)
  have KW7 := Lib.hid (KW6.out.trans kk7)
  clear kk7 La_6 Lb_6 Lc_6 S_6 KW6
  go_wp2_with fail
  refine Calls.mono (add_n (Lb_7.out.nm (k := 12) (by rw [HEb.out]; omega)) (La_7.out.nm (k := 12) (by rw [HEa.out]; omega)) (by omega) (by omega)) ?_
  rintro e w8 ⟨r2, rfl, R2, kk8⟩
  have La_8 := Lib.hid (La_7.out.keep kk8)
  have Lb_8 := Lib.hid (Lb_7.out.keep kk8)
  have Lc_8 := Lib.hid (Lc_7.out.keep kk8)
  have S_8 := Lib.hid (S_7.out.keep kk8)
  have R2_8 := Lib.hid R2
  have KW8 := Lib.hid (KW7.out.trans kk8)
  clear kk8 La_7 Lb_7 Lc_7 S_7 R2 KW7
  go_wp2_with fail
  refine Calls.mono (same_t S_8.out R2_8.out (Nat.add_comm _ _)) ?_
  rintro e w9 ⟨rfl, kk9⟩
  have La_9 := Lib.hid (La_8.out.keep kk9)
  have Lb_9 := Lib.hid (Lb_8.out.keep kk9)
  have Lc_9 := Lib.hid (Lc_8.out.keep kk9)
  have S_9 := Lib.hid (S_8.out.keep kk9)
  have KW9 := Lib.hid (KW8.out.trans kk9)
  clear kk9 La_8 Lb_8 Lc_8 S_8 KW8
  go_wp2_with fail
  refine Calls.mono (add_n (S_9.out.nm (k := 13) HS1.out) (Lc_9.out.nm (k := 12) (by rw [HEc.out]; omega)) (by omega) (by omega)) ?_
  rintro e w10 ⟨r3, rfl, R3, kk10⟩
  have La_10 := Lib.hid (La_9.out.keep kk10)
  have Lb_10 := Lib.hid (Lb_9.out.keep kk10)
  have Lc_10 := Lib.hid (Lc_9.out.keep kk10)
  have R3_10 := Lib.hid R3
  have KW10 := Lib.hid (KW9.out.trans kk10)
  clear kk10 La_9 Lb_9 Lc_9 R3 KW9
  go_wp2_with fail
  refine Calls.mono (add_n (Lb_10.out.nm (k := 12) (by rw [HEb.out]; omega)) (Lc_10.out.nm (k := 12) (by rw [HEc.out]; omega)) (by omega) (by omega)) ?_
  rintro e w11 ⟨r4, rfl, R4, kk11⟩
  have La_11 := Lib.hid (La_10.out.keep kk11)
  have Lb_11 := Lib.hid (Lb_10.out.keep kk11)
  have Lc_11 := Lib.hid (Lc_10.out.keep kk11)
  have R3_11 := Lib.hid (R3_10.out.keep kk11)
  have R4_11 := Lib.hid R4
  have KW11 := Lib.hid (KW10.out.trans kk11)
  clear kk11 La_10 Lb_10 Lc_10 R3_10 R4 KW10
  go_wp2_with fail
  refine Calls.mono (add_n (La_11.out.nm (k := 12) (by rw [HEa.out]; omega)) (R4_11.out.nm (k := 13) HS2.out) (by omega) (by omega)) ?_
  rintro e w12 ⟨r5, rfl, R5, kk12⟩
  have La_12 := Lib.hid (La_11.out.keep kk12)
  have Lb_12 := Lib.hid (Lb_11.out.keep kk12)
  have Lc_12 := Lib.hid (Lc_11.out.keep kk12)
  have R3_12 := Lib.hid (R3_11.out.keep kk12)
  have R5_12 := Lib.hid R5
  have KW12 := Lib.hid (KW11.out.trans kk12)
  clear kk12 La_11 Lb_11 Lc_11 R3_11 R5 KW11
  go_wp2_with fail
  refine Calls.mono (same_t R3_12.out R5_12.out (Nat.add_assoc _ _ _)) ?_
  rintro e w13 ⟨rfl, kk13⟩
  have La_13 := Lib.hid (La_12.out.keep kk13)
  have Lb_13 := Lib.hid (Lb_12.out.keep kk13)
  have Lc_13 := Lib.hid (Lc_12.out.keep kk13)
  have KW13 := Lib.hid (KW12.out.trans kk13)
  clear kk13 La_12 Lb_12 Lc_12 KW12
  go_wp2_with fail
  go_ret
  exact ⟨rfl, KW13.out⟩
theorem law_add (aa ab ac : Option Addr) (na pa nb pb nc pc : Nat) (la lb lc : List Nat) (w : World) (ha : Rd w aa na pa la) (hb : Rd w ab nb pb lb) (hc : Rd w ac nc pc lc) (hT : Tab w) : Calls Tryd.prog 5 #[.slice aa na pa, .slice ab nb pb, .slice ac nc pc] w (TPost w) := by
  by_cases sab : na ≤ 12 ∧ nb ≤ 12
  · by_cases sc : nc ≤ 12
    · exact law_add_small aa ab ac na pa nb pb nc pc la lb lc w ha hb hc hT sab.1 sab.2 sc
    · have dc := hc.cap_le
      have cc := hc.le_cap
      have HT := Lib.hid hT
      have sa := sab.1
      have sb := sab.2
      clear ha hb hc hT sab
      go_enter Tryd.func5, Tryd.ntmps5
      go_wp2_with fail
      refine Calls.mono (awake_c _ HT.out) ?_
      rintro e w1 ⟨rfl, k1⟩
      go_wp2_with fail
      refine Calls.mono (few_yes _ _ _ _ _ _ _ sa sb) ?_
      rintro e w2 ⟨rfl, rfl⟩
      go_wp2_with fail
      go_ret
      exact ⟨rfl, k1⟩
  · have da := ha.cap_le
    have ca := ha.le_cap
    have db := hb.cap_le
    have cb := hb.le_cap
    have HT := Lib.hid hT
    have SAB := Lib.hid sab
    clear ha hb hc hT sab
    go_enter Tryd.func5, Tryd.ntmps5
    go_wp2_with fail
    refine Calls.mono (awake_c _ HT.out) ?_
    rintro e w1 ⟨rfl, k1⟩
    go_wp2_with fail
    refine Calls.mono (few_no _ _ _ _ _ _ _ SAB.out (by omega) (by omega)) ?_
    rintro e w2 ⟨rfl, rfl⟩
    go_wp2_with fail
    go_ret
    exact ⟨rfl, k1⟩
end Go.Proofs.YtgoiechhhnhgaaaDoor
