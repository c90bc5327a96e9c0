/- Walks of layer 3: the denominator, canonical. -/
import Derived.Test.YtjkfnnoakjdgmaaDoorRR7
namespace Go.Proofs.YtjkfnnoakjdgmaaDoor
open Go.RowKit
set_option linter.unusedVariables false
/-- the answer is n, canonical -/
def DCPost (n : Nat) (w : World) (e : Ending) (w' : World) : Prop := ∃ u, e = .returned u ∧ Cn w' u n ∧ Keep w w'
theorem dig1 : dig 1 = [1] := (dig_one (by decide) (by decide)).symm
set_option maxHeartbeats 400000 in
theorem den_cc {w : World} {s : Bool} {a a' : Option Addr} {n c n' c' d k : Nat} (h : Cn w (.slice a' n' c') d) (hd : d < BB ^ k) (hk : k ≤ 1048576) (hk1 : 1 ≤ k) : Calls Tryd.prog 54 #[.agg #[.bool s, .slice a n c, .slice a' n' c']] w (DCPost (dn d) w) := by
  have K1 : Keep w (w.alloc (.cells #[.bool s, .slice a n c, .slice a' n' c'] 25)) := (Keep.refl w).alloc _
  have B1 := QBox.new w s a n c a' n' c'
  have C1 := Lib.hid (bits_n ((h.nm hd).keep K1) hk)
  have H := Lib.hid h
  clear h
  by_cases h0 : d = 0
  · subst h0
    rw [show bl 0 = 0 from by rw [bl_zero_iff]] at C1
    go_enter Tryd.func54, Tryd.ntmps54
    go_wp2_with fail
    refine Calls.mono C1.out ?_
    rintro e w1 ⟨rfl, k1⟩
    have HK := Lib.hid (K1.trans k1)
    have HR := Lib.hid (Rd.one' w1 1 1 rfl (by decide) 58)
    clear K1 B1 k1
    go_wp2
    go_ret
    refine ⟨_, rfl, ?_, HK.out.alloc _⟩
    show Lm _ _ (dig 1)
    rw [dig1]
    exact ⟨_, _, _, rfl, HR.out⟩
  · obtain ⟨z, hz⟩ : ∃ z, bl d = z := ⟨_, rfl⟩
    have hz0 : ((z : Int) == 0) = false := by
      have := mt bl_zero_iff.1 h0
      simp; omega
    rw [hz] at C1
    clear hz
    go_enter Tryd.func54, Tryd.ntmps54
    go_wp2_with fail
    refine Calls.mono C1.out ?_
    rintro e w1 ⟨rfl, k1⟩
    have HK := Lib.hid (K1.trans k1)
    obtain ⟨q0, q1, q2, _, _, _, _⟩ := B1.keep k1
    clear K1 B1 k1
    go_wp2
    go_ret
    exact ⟨_, rfl, by rw [dn_of h0]; exact H.out.keep HK.out, HK.out⟩
theorem one_c0 {w : World} {v : Value} {d k : Nat} (h : Nm w v d k) (hk : k ≤ 1048576) (hk1 : 1 ≤ k) (h0 : d = 0) : Calls Tryd.prog 56 #[v] w (DCPost (dn d) w) := by
  have MK := Lib.hid (rmake_n h hk)
  have HL := Lib.hid h.lt
  clear h
  go_enter Tryd.func56, Tryd.ntmps56
  go_wp2_with fail
  refine Calls.mono MK.out ?_
  rintro e w1 ⟨x, rfl, hx, k1⟩
  obtain ⟨a, cap, rfl, hr⟩ := Cn.form hx
  have HR := Lib.hid hr
  have KW := Lib.hid k1
  obtain ⟨n, hn⟩ : ∃ n, (dig d).length = n := ⟨_, rfl⟩
  have hn0 : n = 0 := by rw [← hn, h0, dig_zero]; rfl
  have q1 := hr.le_cap
  have q2 := hr.cap_le
  rw [hn] at HR q1
  rw [hn]
  clear hx hr k1 hn
  subst hn0
  have H1 := Lib.hid (Rd.one' w1 1 1 rfl (by decide) 58)
  go_wp2
  go_ret
  refine ⟨_, rfl, ?_, KW.out.alloc _⟩
  rw [h0]
  show Lm _ _ (dig 1)
  rw [dig1]
  exact ⟨_, _, _, rfl, H1.out⟩
theorem one_c1 {w : World} {v : Value} {d k : Nat} (h : Nm w v d k) (hk : k ≤ 1048576) (hk1 : 1 ≤ k) (h0 : d ≠ 0) : Calls Tryd.prog 56 #[v] w (DCPost (dn d) w) := by
  have MK := Lib.hid (rmake_n h hk)
  have HL := Lib.hid h.lt
  clear h
  go_enter Tryd.func56, Tryd.ntmps56
  go_wp2_with fail
  refine Calls.mono MK.out ?_
  rintro e w1 ⟨x, rfl, hx, k1⟩
  obtain ⟨a, cap, rfl, hr⟩ := Cn.form hx
  have HR := Lib.hid hr
  have KW := Lib.hid k1
  obtain ⟨n, hn⟩ : ∃ n, (dig d).length = n := ⟨_, rfl⟩
  have hn0 : n ≠ 0 := by rw [← hn]; exact fun h => h0 (dig_nil_iff.1 (List.length_eq_zero_iff.1 h))
  have q1 := hr.le_cap
  have q2 := hr.cap_le
  rw [hn] at HR q1
  rw [hn]
  clear hx hr k1 hn
  have e1 : ((n : Int) == 0) = false := by simp; exact hn0
  go_wp2
  go_ret
  exact ⟨_, rfl, by rw [dn_of h0]; exact ⟨_, _, _, rfl, HR.out⟩, KW.out⟩
theorem one_cc {w : World} {v : Value} {d k : Nat} (h : Nm w v d k) (hk : k ≤ 1048576) (hk1 : 1 ≤ k) : Calls Tryd.prog 56 #[v] w (DCPost (dn d) w) := by
  by_cases h0 : d = 0
  · exact one_c0 h hk hk1 h0
  · exact one_c1 h hk hk1 h0
set_option maxHeartbeats 800000 in
theorem qden_cc {w : World} {v : Value} {q : Rat} {k : Nat} (h : Ra w v q k) (hk : k ≤ 1048574) (hk1 : 1 ≤ k) (hT : Tab w) : Calls Tryd.prog 22 #[v] w (DCPost q.den w) := by
  have hrb := h.rb hk1
  obtain ⟨s, a, n, c, a', n', c', N, D, rfl, hN, hD, hq⟩ := h.form
  have KW_0 := Lib.hid ((Keep.refl w).alloc (.cells #[.bool s, .slice a n c, .slice a' n' c'] 25))
  have B_0 := Lib.hid (QBox.new w s a n c a' n' c')
  have X_0 := Lib.hid (h.keep KW_0.out)
  have T_0 := Lib.hid (hT.keep KW_0.out)
  have CN := Lib.hid (fun w1 (h : Ra w1 (.agg #[.bool s, .slice a n c, .slice a' n' c']) q k) (hT1 : Tab w1) => canon_c h hk hk1 hT1)
  have HW := Lib.hid (Rb.wd hrb)
  have HD := Lib.hid (dn_wd q)
  clear h hN hD hT hq hrb
  go_enter Tryd.func22, Tryd.ntmps22
  obtain ⟨b0, b1, b2, _, _, _, _⟩ := id B_0.out
  go_wp2_with fail
  refine Calls.mono (CN.out _ X_0.out T_0.out) ?_
  rintro e w1 ⟨u, rfl, hu, k1⟩
  obtain ⟨ra, rn, rc, ra', rn', rc', rfl, _, _, hr, hr'⟩ := hu.form
  have DN := Lib.hid (den_cc (s := decide (q.num < 0)) (a := ra) (n := rn) (c := rc) ⟨_, _, _, rfl, hr'⟩ HW.out (by omega) hk1)
  obtain ⟨b, hb⟩ : ∃ b, decide (q.num < 0) = b := ⟨_, rfl⟩
  rw [hb] at DN ⊢
  have KW_1 := Lib.hid (KW_0.out.trans k1)
  clear hr hr' hb k1 hu b0 b1 b2
  go_wp2_with fail
  refine Calls.mono DN.out ?_
  rintro e w2 ⟨u, rfl, hu, k2⟩
  have U := Lib.hid hu
  have KW_2 := Lib.hid (KW_1.out.trans k2)
  clear hu k2 DN
  go_wp2_with fail
  go_ret
  exact ⟨_, rfl, by have := U.out; rw [HD.out] at this; exact this, KW_2.out⟩
set_option maxRecDepth 10000 in
set_option maxHeartbeats 800000 in
theorem rqden_cc {w : World} {v : Value} {q : Rat} {k : Nat} (h : Ra w v q k) (hk : k ≤ 500000) (hk1 : 1 ≤ k) : Calls Tryd.prog 23 #[v] w (DCPost q.den w) := by
  have hrb := h.rb hk1
  obtain ⟨s, a, n, c, a', n', c', N, D, rfl, hN, hD, hq⟩ := h.form
  have KW_0 := Lib.hid ((Keep.refl w).alloc (.cells #[.bool s, .slice a n c, .slice a' n' c'] 25))
  have B_0 := Lib.hid (QBox.new w s a n c a' n' c')
  have X_0 := Lib.hid (h.keep KW_0.out)
  have CN := Lib.hid (fun w1 (h : Ra w1 (.agg #[.bool s, .slice a n c, .slice a' n' c']) q k) => rcanon_c h hk hk1)
  have HW := Lib.hid (Rb.wd hrb)
  have HD := Lib.hid (dn_wd q)
  clear h hN hD hq hrb
  go_enter Tryd.func23, Tryd.ntmps23
  obtain ⟨b0, b1, b2, _, _, _, _⟩ := id B_0.out
  go_wp2_with fail
  refine Calls.mono (CN.out _ X_0.out) ?_
  rintro e w1 ⟨u, rfl, hu, k1⟩
  obtain ⟨ra, rn, rc, ra', rn', rc', rfl, _, _, hr, hr'⟩ := hu.form
  have DN := Lib.hid (one_cc (Cn.nm ⟨_, _, _, rfl, hr'⟩ HW.out) (by omega) hk1)
  obtain ⟨b, hb⟩ : ∃ b, decide (q.num < 0) = b := ⟨_, rfl⟩
  rw [hb]
  have KW_1 := Lib.hid (KW_0.out.trans k1)
  clear hr hr' hb k1 hu b0 b1 b2
  go_wp2_with fail
  rw [field2]
  go_wp2_with fail
  refine Calls.mono DN.out ?_
  rintro e w2 ⟨u, rfl, hu, k2⟩
  have U := Lib.hid hu
  have KW_2 := Lib.hid (KW_1.out.trans k2)
  clear hu k2 DN
  go_wp2_with fail
  go_ret
  exact ⟨_, rfl, by have := U.out; rw [HD.out] at this; exact this, KW_2.out⟩
end Go.Proofs.YtjkfnnoakjdgmaaDoor
