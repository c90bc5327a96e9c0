/- Carried over from another seat by program (portn.py). -/
import Derived.Test.YtnalmjbgkedcoaaDoorR4
namespace Go.Proofs.YtnalmjbgkedcoaaDoor
open Go.RowKit
set_option linter.unusedVariables false
/-- a number and an error (or a truth value) -/
def R2Post (q : Rat) (x : Value) (w : World) (e : Ending) (w' : World) : Prop := ∃ u, e = .returned (.tuple #[u, x]) ∧ Cr w' u q ∧ Keep w w'
theorem cn_nil (w : World) : Cn w (.slice none 0 0) 0 := ⟨none, 0, 0, rfl, by rw [dig_zero]; exact Rd.nil w⟩
theorem uintV_of {n : Nat} (h : n < 18446744073709551616) : uintV n = n := if_pos h
theorem rv_one (s : Bool) (n : Nat) : rv s n 0 = rv s n 1 := rfl
theorem bl_le_one {g : Nat} (h : 2 ≤ g) : ¬ bl g ≤ 1 := by
  intro hb
  have h1 := lt_bl g
  have : (2 : Nat) ^ bl g ≤ 2 ^ 1 := Nat.pow_le_pow_right (by decide) hb
  omega
set_option maxHeartbeats 800000 in
theorem reduce_a {w : World} {a a' : Option Addr} {ln c ld c' n d k : Nat} {l l' : List Nat} (s : Bool) (hr : Rd w a ln c l) (hr' : Rd w a' ld c' l') (hn : nv l = n) (hd : nv l' = d) (h0 : d ≠ 0) (hl : l.length ≤ k) (hl' : l'.length ≤ k) (hk : k ≤ 1048574) (hT : Tab w) (hA : ln ≤ 2) (hB : ld ≤ 2) :
    Calls Tryd.prog 43 #[.bool s, .slice a ln c, .slice a' ld c'] w (RPost (rv s n d) w) := by
  have q1 := hr.le_cap
  have q2 := hr.cap_le
  have q3 := hr'.le_cap
  have q4 := hr'.cap_le
  have X_0 := Lib.hid ((hr.toNm hn hl).keep ((Keep.refl w).alloc (.cells #[.bool false, .slice none 0 0, .slice none 0 0] 25)))
  have Y_0 := Lib.hid ((hr'.toNm hd hl').keep ((Keep.refl w).alloc (.cells #[.bool false, .slice none 0 0, .slice none 0 0] 25)))
  have T_0 := Lib.hid (hT.keep ((Keep.refl w).alloc (.cells #[.bool false, .slice none 0 0, .slice none 0 0] 25)))
  have KW_0 := Lib.hid ((Keep.refl w).alloc (.cells #[.bool false, .slice none 0 0, .slice none 0 0] 25))
  have B_0 := Lib.hid (QBox.new w false none 0 0 none 0 0)
  have e1 : decide ((ln : Int) ≤ 2) = true := decide_eq_true (by omega)
  have e2 : decide ((ld : Int) ≤ 2) = true := decide_eq_true (by omega)
  have hn2 : n < 18446744073709551616 := by
    have h1 := nv_lt hr.lim
    have h2 : BB ^ l.length ≤ BB ^ 2 := Nat.pow_le_pow_right BB_pos (by rw [hr.len_eq]; exact hA)
    have h3 : BB ^ 2 = 18446744073709551616 := by decide
    omega
  have hd2 : d < 18446744073709551616 := by
    have h1 := nv_lt hr'.lim
    have h2 : BB ^ l'.length ≤ BB ^ 2 := Nat.pow_le_pow_right BB_pos (by rw [hr'.len_eq]; exact hB)
    have h3 : BB ^ 2 = 18446744073709551616 := by decide
    omega
  have RW := Lib.hid (fun w1 (hT1 : Tab w1) => reduceWords_c (w := w1) s n d hn2 hd2 h0 hT1)
  have U1 := Lib.hid (fun w1 (h : Nm w1 (.slice a ln c) n k) => uint_n h)
  have U2 := Lib.hid (fun w1 (h : Nm w1 (.slice a' ld c') d k) => uint_n h)
  rw [uintV_of hn2] at U1
  rw [uintV_of hd2] at U2
  obtain ⟨q, hq⟩ : ∃ q, rv s n d = q := ⟨_, rfl⟩
  rw [hq] at RW ⊢
  obtain ⟨t1, ht1⟩ : ∃ b, uintB n = b := ⟨_, rfl⟩
  obtain ⟨t2, ht2⟩ : ∃ b, uintB d = b := ⟨_, rfl⟩
  rw [ht1] at U1
  rw [ht2] at U2
  clear hr hr' hn hd hT hq hl hl' ht1 ht2
  go_enter Tryd.func43, Tryd.ntmps43
  go_wp2_with fail
  refine Calls.mono (U1.out _ X_0.out) ?_
  rintro e w1 ⟨rfl, k1⟩
  have Y_1 := Lib.hid (Y_0.out.keep k1)
  have T_1 := Lib.hid (T_0.out.keep k1)
  have B_1 := Lib.hid (B_0.out.keep k1)
  have KW_1 := Lib.hid (KW_0.out.trans k1)
  clear k1 X_0 Y_0 T_0 B_0 KW_0
  go_wp2_with fail
  refine Calls.mono (U2.out _ Y_1.out) ?_
  rintro e w2 ⟨rfl, k2⟩
  have T_2 := Lib.hid (T_1.out.keep k2)
  have B_2 := Lib.hid (B_1.out.keep k2)
  have KW_2 := Lib.hid (KW_1.out.trans k2)
  clear k2 Y_1 T_1 B_1 KW_1
  go_wp2_with fail
  refine Calls.mono (RW.out _ T_2.out) ?_
  rintro e wz ⟨u, rfl, hu, kz⟩
  obtain ⟨b0, a0, n0, c0, a1, n1, c1, rfl, hcr, hkk, f0, f1, f2, g0, g1, g2, s0, s1, s2⟩ := hu.put (B_2.out.keep kz) (KW_2.out.trans kz) (Nat.le_refl _)
  have FIN := Lib.hid (show RPost q w (.returned (.agg #[.bool b0, .slice a0 n0 c0, .slice a1 n1 c1])) _ from ⟨_, rfl, hcr, hkk⟩)
  clear hcr hkk hu kz KW_2 T_2 B_2
  go_wp2
  refine bodyPost_ret (v := .agg #[.bool b0, .slice a0 n0 c0, .slice a1 n1 c1]) (by simp [results, Tryd.results43, go_sem, s0, s1, s2]) rfl ?_
  exact FIN.out
set_option maxHeartbeats 800000 in
theorem reduce_b {w : World} {a a' : Option Addr} {ln c ld c' n d k : Nat} {l l' : List Nat} (s : Bool) (hr : Rd w a ln c l) (hr' : Rd w a' ld c' l') (hn : nv l = n) (hd : nv l' = d) (h0 : d ≠ 0) (hl : l.length ≤ k) (hl' : l'.length ≤ k) (hk : k ≤ 1048574) (hT : Tab w) (hA : ¬ ln ≤ 2) (hB : ld = 1) (hx : d = 1) :
    Calls Tryd.prog 43 #[.bool s, .slice a ln c, .slice a' ld c'] w (RPost (rv s n d) w) := by
  have q1 := hr.le_cap
  have q2 := hr.cap_le
  have q3 := hr'.le_cap
  have q4 := hr'.cap_le
  have X_0 := Lib.hid ((hr.toNm hn hl).keep ((Keep.refl w).alloc (.cells #[.bool false, .slice none 0 0, .slice none 0 0] 25)))
  have Y_0 := Lib.hid ((hr'.toNm hd hl').keep ((Keep.refl w).alloc (.cells #[.bool false, .slice none 0 0, .slice none 0 0] 25)))
  have T_0 := Lib.hid (hT.keep ((Keep.refl w).alloc (.cells #[.bool false, .slice none 0 0, .slice none 0 0] 25)))
  have KW_0 := Lib.hid ((Keep.refl w).alloc (.cells #[.bool false, .slice none 0 0, .slice none 0 0] 25))
  have B_0 := Lib.hid (QBox.new w false none 0 0 none 0 0)
  subst hB
  have e1 : decide ((ln : Int) ≤ 2) = false := decide_eq_false (by omega)
  obtain ⟨b, o, rfl, hcell, _⟩ := hr'.cell0 (by omega)
  rw [← len_one hr'.len_eq, hd, hx] at hcell
  have MK := Lib.hid (fun w1 (h : Nm w1 (.slice a ln c) n k) => make_n h (by omega))
  have PK := Lib.hid (fun w1 x (h : Cn w1 x n) => pack_c s h (cn_nil w1) (Nat.gcd_one_right n))
  rw [rv_one] at PK
  subst hx
  obtain ⟨q, hq⟩ : ∃ q, rv s n 1 = q := ⟨_, rfl⟩
  rw [hq] at PK ⊢
  clear hr hr' hn hd hT hq hl hl' Y_0 T_0
  go_enter Tryd.func43, Tryd.ntmps43
  go_wp2_with fail
  refine Calls.mono (MK.out _ X_0.out) ?_
  rintro e w1 ⟨x, rfl, hZ, k1⟩
  have B_1 := Lib.hid (B_0.out.keep k1)
  have Z_1 := Lib.hid hZ
  have KW_1 := Lib.hid (KW_0.out.trans k1)
  clear k1 X_0 B_0 hZ KW_0
  go_wp2_with fail
  refine Calls.mono (PK.out _ _ Z_1.out) ?_
  rintro e wz ⟨u, rfl, hu, kz⟩
  obtain ⟨b0, a0, n0, c0, a1, n1, c1, rfl, hcr, hkk, f0, f1, f2, g0, g1, g2, s0, s1, s2⟩ := hu.put (B_1.out.keep kz) (KW_1.out.trans kz) (Nat.le_refl _)
  have FIN := Lib.hid (show RPost q w (.returned (.agg #[.bool b0, .slice a0 n0 c0, .slice a1 n1 c1])) _ from ⟨_, rfl, hcr, hkk⟩)
  clear hcr hkk hu kz KW_1 B_1 Z_1
  go_wp2
  refine bodyPost_ret (v := .agg #[.bool b0, .slice a0 n0 c0, .slice a1 n1 c1]) (by simp [results, Tryd.results43, go_sem, s0, s1, s2]) rfl ?_
  exact FIN.out
set_option maxHeartbeats 800000 in
theorem reduce_ci1 {w : World} {a a' : Option Addr} {ln c ld c' n d k : Nat} {l l' : List Nat} (s : Bool) (hr : Rd w a ln c l) (hr' : Rd w a' ld c' l') (hn : nv l = n) (hd : nv l' = d) (h0 : d ≠ 0) (hl : l.length ≤ k) (hl' : l'.length ≤ k) (hk : k ≤ 1048574) (hT : Tab w) (hA : ln ≤ 2) (hB : ¬ ld ≤ 2) (hg : 2 ≤ Nat.gcd n d) :
    Calls Tryd.prog 43 #[.bool s, .slice a ln c, .slice a' ld c'] w (RPost (rv s n d) w) := by
  have q1 := hr.le_cap
  have q2 := hr.cap_le
  have q3 := hr'.le_cap
  have q4 := hr'.cap_le
  have X_0 := Lib.hid ((hr.toNm hn hl).keep ((Keep.refl w).alloc (.cells #[.bool false, .slice none 0 0, .slice none 0 0] 25)))
  have Y_0 := Lib.hid ((hr'.toNm hd hl').keep ((Keep.refl w).alloc (.cells #[.bool false, .slice none 0 0, .slice none 0 0] 25)))
  have T_0 := Lib.hid (hT.keep ((Keep.refl w).alloc (.cells #[.bool false, .slice none 0 0, .slice none 0 0] 25)))
  have KW_0 := Lib.hid ((Keep.refl w).alloc (.cells #[.bool false, .slice none 0 0, .slice none 0 0] 25))
  have B_0 := Lib.hid (QBox.new w false none 0 0 none 0 0)
  have e1 : decide ((ln : Int) ≤ 2) = true := decide_eq_true (by omega)
  have e2 : decide ((ld : Int) ≤ 2) = false := decide_eq_false (by omega)
  have e3 : ((ld : Int) == 1) = false := by simp; omega
  have hg0 : Nat.gcd n d ≠ 0 := by have := Nat.gcd_pos_of_pos_right n (Nat.pos_of_ne_zero h0); omega
  have hgk : Nat.gcd n d < BB ^ k := Nat.lt_of_le_of_lt (Nat.gcd_le_right n (Nat.pos_of_ne_zero h0)) (hr'.toNm hd hl').lt
  have GC := Lib.hid (fun w1 (h : Nm w1 (.slice a ln c) n k) (h' : Nm w1 (.slice a' ld c') d k) (hT1 : Tab w1) => gcd_n h h' (by omega) (by omega) hT1)
  have hblg : (bl (Nat.gcd n d) : Int) ≤ 1 ↔ ¬ 2 ≤ Nat.gcd n d := by
    constructor
    · intro h1 h2; exact bl_le_one h2 (by omega)
    · intro h1
      have : Nat.gcd n d = 1 := by omega
      rw [this]; decide
  have BT := Lib.hid (fun w1 u (h : Cn w1 u (Nat.gcd n d)) => bits_n (h.nm hgk) (by omega))
  obtain ⟨r1, r2, r3⟩ := rv_red s n h0
  obtain ⟨z, hz⟩ : ∃ z, bl (Nat.gcd n d) = z := ⟨_, rfl⟩
  obtain ⟨G, hG⟩ : ∃ G, Nat.gcd n d = G := ⟨_, rfl⟩
  rw [hz] at BT hblg
  rw [hG] at BT GC hblg hg hg0 hgk r1 r2 r3
  have hb : decide ((1 : Int) < z) = true := decide_eq_true (by omega)
  have D1 := Lib.hid (fun w1 u (h : Nm w1 (.slice a ln c) n k) (hu : Cn w1 u G) => divMod_n h (hu.nm hgk) (by omega))
  have D2 := Lib.hid (fun w1 u (h : Nm w1 (.slice a' ld c') d k) (hu : Cn w1 u G) => divMod_n h (hu.nm hgk) (by omega))
  have PK := Lib.hid (fun w1 x y (hx : Cn w1 x (n / G)) (hy : Cn w1 y (d / G)) => pack_c s hx hy r2)
  rw [r1] at PK
  obtain ⟨N, hN⟩ : ∃ N, n / G = N := ⟨_, rfl⟩
  obtain ⟨D, hD⟩ : ∃ D, d / G = D := ⟨_, rfl⟩
  rw [hN] at PK D1
  rw [hD] at PK D2
  obtain ⟨er, her⟩ : ∃ e, dmE G = e := ⟨_, rfl⟩
  rw [her] at D1 D2
  clear hN hD her
  obtain ⟨q, hq⟩ : ∃ q, rv s n d = q := ⟨_, rfl⟩
  rw [hq] at PK ⊢
  clear hr hr' hn hd hT hq hl hl' r1 r2 r3 hz hG hblg
  go_enter Tryd.func43, Tryd.ntmps43
  go_wp2_with fail
  refine Calls.mono (GC.out _ X_0.out Y_0.out T_0.out) ?_
  rintro e w1 ⟨gv, rfl, hG, k1⟩
  have X_1 := Lib.hid (X_0.out.keep k1)
  have Y_1 := Lib.hid (Y_0.out.keep k1)
  have B_1 := Lib.hid (B_0.out.keep k1)
  have G_1 := Lib.hid hG
  have KW_1 := Lib.hid (KW_0.out.trans k1)
  clear k1 T_0 X_0 Y_0 B_0 hG KW_0
  go_wp2_with fail
  refine Calls.mono (BT.out _ _ G_1.out) ?_
  rintro e w2 ⟨rfl, k2⟩
  have X_2 := Lib.hid (X_1.out.keep k2)
  have Y_2 := Lib.hid (Y_1.out.keep k2)
  have B_2 := Lib.hid (B_1.out.keep k2)
  have G_2 := Lib.hid (G_1.out.keep k2)
  have KW_2 := Lib.hid (KW_1.out.trans k2)
  clear k2 X_1 Y_1 B_1 G_1 KW_1
  go_wp2_with fail
  refine Calls.mono (D1.out _ _ X_2.out G_2.out) ?_
  rintro e w3 ⟨x1, y1, rfl, hP, hy1, k3⟩
  have Y_3 := Lib.hid (Y_2.out.keep k3)
  have B_3 := Lib.hid (B_2.out.keep k3)
  have G_3 := Lib.hid (G_2.out.keep k3)
  have P_3 := Lib.hid hP
  have KW_3 := Lib.hid (KW_2.out.trans k3)
  clear hy1
  clear k3 X_2 Y_2 B_2 G_2 hP KW_2
  go_wp2_with fail
  refine Calls.mono (D2.out _ _ Y_3.out G_3.out) ?_
  rintro e w4 ⟨x2, y2, rfl, hQ, hy2, k4⟩
  have B_4 := Lib.hid (B_3.out.keep k4)
  have P_4 := Lib.hid (P_3.out.keep k4)
  have Q_4 := Lib.hid hQ
  have KW_4 := Lib.hid (KW_3.out.trans k4)
  clear hy2
  clear k4 Y_3 G_3 B_3 P_3 hQ KW_3
  go_wp2_with fail
  refine Calls.mono (PK.out _ _ _ P_4.out Q_4.out) ?_
  rintro e wz ⟨u, rfl, hu, kz⟩
  obtain ⟨b0, a0, n0, c0, a1, n1, c1, rfl, hcr, hkk, f0, f1, f2, g0, g1, g2, s0, s1, s2⟩ := hu.put (B_4.out.keep kz) (KW_4.out.trans kz) (Nat.le_refl _)
  have FIN := Lib.hid (show RPost q w (.returned (.agg #[.bool b0, .slice a0 n0 c0, .slice a1 n1 c1])) _ from ⟨_, rfl, hcr, hkk⟩)
  clear hcr hkk hu kz KW_4 B_4 P_4 Q_4
  go_wp2
  refine bodyPost_ret (v := .agg #[.bool b0, .slice a0 n0 c0, .slice a1 n1 c1]) (by simp [results, Tryd.results43, go_sem, s0, s1, s2]) rfl ?_
  exact FIN.out
set_option maxHeartbeats 800000 in
theorem reduce_ci0 {w : World} {a a' : Option Addr} {ln c ld c' n d k : Nat} {l l' : List Nat} (s : Bool) (hr : Rd w a ln c l) (hr' : Rd w a' ld c' l') (hn : nv l = n) (hd : nv l' = d) (h0 : d ≠ 0) (hl : l.length ≤ k) (hl' : l'.length ≤ k) (hk : k ≤ 1048574) (hT : Tab w) (hA : ln ≤ 2) (hB : ¬ ld ≤ 2) (hg : ¬ 2 ≤ Nat.gcd n d) :
    Calls Tryd.prog 43 #[.bool s, .slice a ln c, .slice a' ld c'] w (RPost (rv s n d) w) := by
  have q1 := hr.le_cap
  have q2 := hr.cap_le
  have q3 := hr'.le_cap
  have q4 := hr'.cap_le
  have X_0 := Lib.hid ((hr.toNm hn hl).keep ((Keep.refl w).alloc (.cells #[.bool false, .slice none 0 0, .slice none 0 0] 25)))
  have Y_0 := Lib.hid ((hr'.toNm hd hl').keep ((Keep.refl w).alloc (.cells #[.bool false, .slice none 0 0, .slice none 0 0] 25)))
  have T_0 := Lib.hid (hT.keep ((Keep.refl w).alloc (.cells #[.bool false, .slice none 0 0, .slice none 0 0] 25)))
  have KW_0 := Lib.hid ((Keep.refl w).alloc (.cells #[.bool false, .slice none 0 0, .slice none 0 0] 25))
  have B_0 := Lib.hid (QBox.new w false none 0 0 none 0 0)
  have e1 : decide ((ln : Int) ≤ 2) = true := decide_eq_true (by omega)
  have e2 : decide ((ld : Int) ≤ 2) = false := decide_eq_false (by omega)
  have e3 : ((ld : Int) == 1) = false := by simp; omega
  have hg0 : Nat.gcd n d ≠ 0 := by have := Nat.gcd_pos_of_pos_right n (Nat.pos_of_ne_zero h0); omega
  have hgk : Nat.gcd n d < BB ^ k := Nat.lt_of_le_of_lt (Nat.gcd_le_right n (Nat.pos_of_ne_zero h0)) (hr'.toNm hd hl').lt
  have GC := Lib.hid (fun w1 (h : Nm w1 (.slice a ln c) n k) (h' : Nm w1 (.slice a' ld c') d k) (hT1 : Tab w1) => gcd_n h h' (by omega) (by omega) hT1)
  have hblg : (bl (Nat.gcd n d) : Int) ≤ 1 ↔ ¬ 2 ≤ Nat.gcd n d := by
    constructor
    · intro h1 h2; exact bl_le_one h2 (by omega)
    · intro h1
      have : Nat.gcd n d = 1 := by omega
      rw [this]; decide
  have BT := Lib.hid (fun w1 u (h : Cn w1 u (Nat.gcd n d)) => bits_n (h.nm hgk) (by omega))
  obtain ⟨r1, r2, r3⟩ := rv_red s n h0
  obtain ⟨z, hz⟩ : ∃ z, bl (Nat.gcd n d) = z := ⟨_, rfl⟩
  obtain ⟨G, hG⟩ : ∃ G, Nat.gcd n d = G := ⟨_, rfl⟩
  rw [hz] at BT hblg
  rw [hG] at BT GC hblg hg hg0 hgk r1 r2 r3
  have hb : decide ((1 : Int) < z) = false := decide_eq_false (by omega)
  have hG1 : G = 1 := by omega
  subst hG1
  have D1 := Lib.hid (fun w1 (h : Nm w1 (.slice a ln c) n k) => make_n h (by omega))
  have D2 := Lib.hid (fun w1 (h : Nm w1 (.slice a' ld c') d k) => make_n h (by omega))
  rw [Nat.div_one] at r1 r2 r3
  rw [Nat.div_one] at r1 r2
  have PK := Lib.hid (fun w1 x y (hx : Cn w1 x n) (hy : Cn w1 y d) => pack_c s hx hy r2)
  obtain ⟨q, hq⟩ : ∃ q, rv s n d = q := ⟨_, rfl⟩
  rw [hq] at PK ⊢
  clear hr hr' hn hd hT hq hl hl' r1 r2 r3 hz hG hblg
  go_enter Tryd.func43, Tryd.ntmps43
  go_wp2_with fail
  refine Calls.mono (GC.out _ X_0.out Y_0.out T_0.out) ?_
  rintro e w1 ⟨gv, rfl, hG, k1⟩
  have X_1 := Lib.hid (X_0.out.keep k1)
  have Y_1 := Lib.hid (Y_0.out.keep k1)
  have B_1 := Lib.hid (B_0.out.keep k1)
  have G_1 := Lib.hid hG
  have KW_1 := Lib.hid (KW_0.out.trans k1)
  clear k1 T_0 X_0 Y_0 B_0 hG KW_0
  go_wp2_with fail
  refine Calls.mono (BT.out _ _ G_1.out) ?_
  rintro e w2 ⟨rfl, k2⟩
  have X_2 := Lib.hid (X_1.out.keep k2)
  have Y_2 := Lib.hid (Y_1.out.keep k2)
  have B_2 := Lib.hid (B_1.out.keep k2)
  have G_2 := Lib.hid (G_1.out.keep k2)
  have KW_2 := Lib.hid (KW_1.out.trans k2)
  clear k2 X_1 Y_1 B_1 G_1 KW_1
  go_wp2_with fail
  refine Calls.mono (D1.out _ X_2.out) ?_
  rintro e w3 ⟨x1, rfl, hP, k3⟩
  have Y_3 := Lib.hid (Y_2.out.keep k3)
  have B_3 := Lib.hid (B_2.out.keep k3)
  have P_3 := Lib.hid hP
  have KW_3 := Lib.hid (KW_2.out.trans k3)
  clear k3 X_2 G_2 Y_2 B_2 hP KW_2
  go_wp2_with fail
  refine Calls.mono (D2.out _ Y_3.out) ?_
  rintro e w4 ⟨x2, rfl, hQ, k4⟩
  have B_4 := Lib.hid (B_3.out.keep k4)
  have P_4 := Lib.hid (P_3.out.keep k4)
  have Q_4 := Lib.hid hQ
  have KW_4 := Lib.hid (KW_3.out.trans k4)
  clear k4 Y_3 B_3 P_3 hQ KW_3
  go_wp2_with fail
  refine Calls.mono (PK.out _ _ _ P_4.out Q_4.out) ?_
  rintro e wz ⟨u, rfl, hu, kz⟩
  obtain ⟨b0, a0, n0, c0, a1, n1, c1, rfl, hcr, hkk, f0, f1, f2, g0, g1, g2, s0, s1, s2⟩ := hu.put (B_4.out.keep kz) (KW_4.out.trans kz) (Nat.le_refl _)
  have FIN := Lib.hid (show RPost q w (.returned (.agg #[.bool b0, .slice a0 n0 c0, .slice a1 n1 c1])) _ from ⟨_, rfl, hcr, hkk⟩)
  clear hcr hkk hu kz KW_4 B_4 P_4 Q_4
  go_wp2
  refine bodyPost_ret (v := .agg #[.bool b0, .slice a0 n0 c0, .slice a1 n1 c1]) (by simp [results, Tryd.results43, go_sem, s0, s1, s2]) rfl ?_
  exact FIN.out
set_option maxHeartbeats 800000 in
theorem reduce_cii1 {w : World} {a a' : Option Addr} {ln c ld c' n d k : Nat} {l l' : List Nat} (s : Bool) (hr : Rd w a ln c l) (hr' : Rd w a' ld c' l') (hn : nv l = n) (hd : nv l' = d) (h0 : d ≠ 0) (hl : l.length ≤ k) (hl' : l'.length ≤ k) (hk : k ≤ 1048574) (hT : Tab w) (hA : ¬ ln ≤ 2) (hB : ld ≠ 1) (hg : 2 ≤ Nat.gcd n d) :
    Calls Tryd.prog 43 #[.bool s, .slice a ln c, .slice a' ld c'] w (RPost (rv s n d) w) := by
  have q1 := hr.le_cap
  have q2 := hr.cap_le
  have q3 := hr'.le_cap
  have q4 := hr'.cap_le
  have X_0 := Lib.hid ((hr.toNm hn hl).keep ((Keep.refl w).alloc (.cells #[.bool false, .slice none 0 0, .slice none 0 0] 25)))
  have Y_0 := Lib.hid ((hr'.toNm hd hl').keep ((Keep.refl w).alloc (.cells #[.bool false, .slice none 0 0, .slice none 0 0] 25)))
  have T_0 := Lib.hid (hT.keep ((Keep.refl w).alloc (.cells #[.bool false, .slice none 0 0, .slice none 0 0] 25)))
  have KW_0 := Lib.hid ((Keep.refl w).alloc (.cells #[.bool false, .slice none 0 0, .slice none 0 0] 25))
  have B_0 := Lib.hid (QBox.new w false none 0 0 none 0 0)
  have e1 : decide ((ln : Int) ≤ 2) = false := decide_eq_false (by omega)
  have e3 : ((ld : Int) == 1) = false := by simp; omega
  have hg0 : Nat.gcd n d ≠ 0 := by have := Nat.gcd_pos_of_pos_right n (Nat.pos_of_ne_zero h0); omega
  have hgk : Nat.gcd n d < BB ^ k := Nat.lt_of_le_of_lt (Nat.gcd_le_right n (Nat.pos_of_ne_zero h0)) (hr'.toNm hd hl').lt
  have GC := Lib.hid (fun w1 (h : Nm w1 (.slice a ln c) n k) (h' : Nm w1 (.slice a' ld c') d k) (hT1 : Tab w1) => gcd_n h h' (by omega) (by omega) hT1)
  have hblg : (bl (Nat.gcd n d) : Int) ≤ 1 ↔ ¬ 2 ≤ Nat.gcd n d := by
    constructor
    · intro h1 h2; exact bl_le_one h2 (by omega)
    · intro h1
      have : Nat.gcd n d = 1 := by omega
      rw [this]; decide
  have BT := Lib.hid (fun w1 u (h : Cn w1 u (Nat.gcd n d)) => bits_n (h.nm hgk) (by omega))
  obtain ⟨r1, r2, r3⟩ := rv_red s n h0
  obtain ⟨z, hz⟩ : ∃ z, bl (Nat.gcd n d) = z := ⟨_, rfl⟩
  obtain ⟨G, hG⟩ : ∃ G, Nat.gcd n d = G := ⟨_, rfl⟩
  rw [hz] at BT hblg
  rw [hG] at BT GC hblg hg hg0 hgk r1 r2 r3
  have hb : decide ((1 : Int) < z) = true := decide_eq_true (by omega)
  have D1 := Lib.hid (fun w1 u (h : Nm w1 (.slice a ln c) n k) (hu : Cn w1 u G) => divMod_n h (hu.nm hgk) (by omega))
  have D2 := Lib.hid (fun w1 u (h : Nm w1 (.slice a' ld c') d k) (hu : Cn w1 u G) => divMod_n h (hu.nm hgk) (by omega))
  have PK := Lib.hid (fun w1 x y (hx : Cn w1 x (n / G)) (hy : Cn w1 y (d / G)) => pack_c s hx hy r2)
  rw [r1] at PK
  obtain ⟨N, hN⟩ : ∃ N, n / G = N := ⟨_, rfl⟩
  obtain ⟨D, hD⟩ : ∃ D, d / G = D := ⟨_, rfl⟩
  rw [hN] at PK D1
  rw [hD] at PK D2
  obtain ⟨er, her⟩ : ∃ e, dmE G = e := ⟨_, rfl⟩
  rw [her] at D1 D2
  clear hN hD her
  obtain ⟨q, hq⟩ : ∃ q, rv s n d = q := ⟨_, rfl⟩
  rw [hq] at PK ⊢
  clear hr hr' hn hd hT hq hl hl' r1 r2 r3 hz hG hblg
  go_enter Tryd.func43, Tryd.ntmps43
  go_wp2_with fail
  refine Calls.mono (GC.out _ X_0.out Y_0.out T_0.out) ?_
  rintro e w1 ⟨gv, rfl, hG, k1⟩
  have X_1 := Lib.hid (X_0.out.keep k1)
  have Y_1 := Lib.hid (Y_0.out.keep k1)
  have B_1 := Lib.hid (B_0.out.keep k1)
  have G_1 := Lib.hid hG
  have KW_1 := Lib.hid (KW_0.out.trans k1)
  clear k1 T_0 X_0 Y_0 B_0 hG KW_0
  go_wp2_with fail
  refine Calls.mono (BT.out _ _ G_1.out) ?_
  rintro e w2 ⟨rfl, k2⟩
  have X_2 := Lib.hid (X_1.out.keep k2)
  have Y_2 := Lib.hid (Y_1.out.keep k2)
  have B_2 := Lib.hid (B_1.out.keep k2)
  have G_2 := Lib.hid (G_1.out.keep k2)
  have KW_2 := Lib.hid (KW_1.out.trans k2)
  clear k2 X_1 Y_1 B_1 G_1 KW_1
  go_wp2_with fail
  refine Calls.mono (D1.out _ _ X_2.out G_2.out) ?_
  rintro e w3 ⟨x1, y1, rfl, hP, hy1, k3⟩
  have Y_3 := Lib.hid (Y_2.out.keep k3)
  have B_3 := Lib.hid (B_2.out.keep k3)
  have G_3 := Lib.hid (G_2.out.keep k3)
  have P_3 := Lib.hid hP
  have KW_3 := Lib.hid (KW_2.out.trans k3)
  clear hy1
  clear k3 X_2 Y_2 B_2 G_2 hP KW_2
  go_wp2_with fail
  refine Calls.mono (D2.out _ _ Y_3.out G_3.out) ?_
  rintro e w4 ⟨x2, y2, rfl, hQ, hy2, k4⟩
  have B_4 := Lib.hid (B_3.out.keep k4)
  have P_4 := Lib.hid (P_3.out.keep k4)
  have Q_4 := Lib.hid hQ
  have KW_4 := Lib.hid (KW_3.out.trans k4)
  clear hy2
  clear k4 Y_3 G_3 B_3 P_3 hQ KW_3
  go_wp2_with fail
  refine Calls.mono (PK.out _ _ _ P_4.out Q_4.out) ?_
  rintro e wz ⟨u, rfl, hu, kz⟩
  obtain ⟨b0, a0, n0, c0, a1, n1, c1, rfl, hcr, hkk, f0, f1, f2, g0, g1, g2, s0, s1, s2⟩ := hu.put (B_4.out.keep kz) (KW_4.out.trans kz) (Nat.le_refl _)
  have FIN := Lib.hid (show RPost q w (.returned (.agg #[.bool b0, .slice a0 n0 c0, .slice a1 n1 c1])) _ from ⟨_, rfl, hcr, hkk⟩)
  clear hcr hkk hu kz KW_4 B_4 P_4 Q_4
  go_wp2
  refine bodyPost_ret (v := .agg #[.bool b0, .slice a0 n0 c0, .slice a1 n1 c1]) (by simp [results, Tryd.results43, go_sem, s0, s1, s2]) rfl ?_
  exact FIN.out
set_option maxHeartbeats 800000 in
theorem reduce_cii0 {w : World} {a a' : Option Addr} {ln c ld c' n d k : Nat} {l l' : List Nat} (s : Bool) (hr : Rd w a ln c l) (hr' : Rd w a' ld c' l') (hn : nv l = n) (hd : nv l' = d) (h0 : d ≠ 0) (hl : l.length ≤ k) (hl' : l'.length ≤ k) (hk : k ≤ 1048574) (hT : Tab w) (hA : ¬ ln ≤ 2) (hB : ld ≠ 1) (hg : ¬ 2 ≤ Nat.gcd n d) :
    Calls Tryd.prog 43 #[.bool s, .slice a ln c, .slice a' ld c'] w (RPost (rv s n d) w) := by
  have q1 := hr.le_cap
  have q2 := hr.cap_le
  have q3 := hr'.le_cap
  have q4 := hr'.cap_le
  have X_0 := Lib.hid ((hr.toNm hn hl).keep ((Keep.refl w).alloc (.cells #[.bool false, .slice none 0 0, .slice none 0 0] 25)))
  have Y_0 := Lib.hid ((hr'.toNm hd hl').keep ((Keep.refl w).alloc (.cells #[.bool false, .slice none 0 0, .slice none 0 0] 25)))
  have T_0 := Lib.hid (hT.keep ((Keep.refl w).alloc (.cells #[.bool false, .slice none 0 0, .slice none 0 0] 25)))
  have KW_0 := Lib.hid ((Keep.refl w).alloc (.cells #[.bool false, .slice none 0 0, .slice none 0 0] 25))
  have B_0 := Lib.hid (QBox.new w false none 0 0 none 0 0)
  have e1 : decide ((ln : Int) ≤ 2) = false := decide_eq_false (by omega)
  have e3 : ((ld : Int) == 1) = false := by simp; omega
  have hg0 : Nat.gcd n d ≠ 0 := by have := Nat.gcd_pos_of_pos_right n (Nat.pos_of_ne_zero h0); omega
  have hgk : Nat.gcd n d < BB ^ k := Nat.lt_of_le_of_lt (Nat.gcd_le_right n (Nat.pos_of_ne_zero h0)) (hr'.toNm hd hl').lt
  have GC := Lib.hid (fun w1 (h : Nm w1 (.slice a ln c) n k) (h' : Nm w1 (.slice a' ld c') d k) (hT1 : Tab w1) => gcd_n h h' (by omega) (by omega) hT1)
  have hblg : (bl (Nat.gcd n d) : Int) ≤ 1 ↔ ¬ 2 ≤ Nat.gcd n d := by
    constructor
    · intro h1 h2; exact bl_le_one h2 (by omega)
    · intro h1
      have : Nat.gcd n d = 1 := by omega
      rw [this]; decide
  have BT := Lib.hid (fun w1 u (h : Cn w1 u (Nat.gcd n d)) => bits_n (h.nm hgk) (by omega))
  obtain ⟨r1, r2, r3⟩ := rv_red s n h0
  obtain ⟨z, hz⟩ : ∃ z, bl (Nat.gcd n d) = z := ⟨_, rfl⟩
  obtain ⟨G, hG⟩ : ∃ G, Nat.gcd n d = G := ⟨_, rfl⟩
  rw [hz] at BT hblg
  rw [hG] at BT GC hblg hg hg0 hgk r1 r2 r3
  have hb : decide ((1 : Int) < z) = false := decide_eq_false (by omega)
  have hG1 : G = 1 := by omega
  subst hG1
  have D1 := Lib.hid (fun w1 (h : Nm w1 (.slice a ln c) n k) => make_n h (by omega))
  have D2 := Lib.hid (fun w1 (h : Nm w1 (.slice a' ld c') d k) => make_n h (by omega))
  rw [Nat.div_one] at r1 r2 r3
  rw [Nat.div_one] at r1 r2
  have PK := Lib.hid (fun w1 x y (hx : Cn w1 x n) (hy : Cn w1 y d) => pack_c s hx hy r2)
  obtain ⟨q, hq⟩ : ∃ q, rv s n d = q := ⟨_, rfl⟩
  rw [hq] at PK ⊢
  clear hr hr' hn hd hT hq hl hl' r1 r2 r3 hz hG hblg
  go_enter Tryd.func43, Tryd.ntmps43
  go_wp2_with fail
  refine Calls.mono (GC.out _ X_0.out Y_0.out T_0.out) ?_
  rintro e w1 ⟨gv, rfl, hG, k1⟩
  have X_1 := Lib.hid (X_0.out.keep k1)
  have Y_1 := Lib.hid (Y_0.out.keep k1)
  have B_1 := Lib.hid (B_0.out.keep k1)
  have G_1 := Lib.hid hG
  have KW_1 := Lib.hid (KW_0.out.trans k1)
  clear k1 T_0 X_0 Y_0 B_0 hG KW_0
  go_wp2_with fail
  refine Calls.mono (BT.out _ _ G_1.out) ?_
  rintro e w2 ⟨rfl, k2⟩
  have X_2 := Lib.hid (X_1.out.keep k2)
  have Y_2 := Lib.hid (Y_1.out.keep k2)
  have B_2 := Lib.hid (B_1.out.keep k2)
  have G_2 := Lib.hid (G_1.out.keep k2)
  have KW_2 := Lib.hid (KW_1.out.trans k2)
  clear k2 X_1 Y_1 B_1 G_1 KW_1
  go_wp2_with fail
  refine Calls.mono (D1.out _ X_2.out) ?_
  rintro e w3 ⟨x1, rfl, hP, k3⟩
  have Y_3 := Lib.hid (Y_2.out.keep k3)
  have B_3 := Lib.hid (B_2.out.keep k3)
  have P_3 := Lib.hid hP
  have KW_3 := Lib.hid (KW_2.out.trans k3)
  clear k3 X_2 G_2 Y_2 B_2 hP KW_2
  go_wp2_with fail
  refine Calls.mono (D2.out _ Y_3.out) ?_
  rintro e w4 ⟨x2, rfl, hQ, k4⟩
  have B_4 := Lib.hid (B_3.out.keep k4)
  have P_4 := Lib.hid (P_3.out.keep k4)
  have Q_4 := Lib.hid hQ
  have KW_4 := Lib.hid (KW_3.out.trans k4)
  clear k4 Y_3 B_3 P_3 hQ KW_3
  go_wp2_with fail
  refine Calls.mono (PK.out _ _ _ P_4.out Q_4.out) ?_
  rintro e wz ⟨u, rfl, hu, kz⟩
  obtain ⟨b0, a0, n0, c0, a1, n1, c1, rfl, hcr, hkk, f0, f1, f2, g0, g1, g2, s0, s1, s2⟩ := hu.put (B_4.out.keep kz) (KW_4.out.trans kz) (Nat.le_refl _)
  have FIN := Lib.hid (show RPost q w (.returned (.agg #[.bool b0, .slice a0 n0 c0, .slice a1 n1 c1])) _ from ⟨_, rfl, hcr, hkk⟩)
  clear hcr hkk hu kz KW_4 B_4 P_4 Q_4
  go_wp2
  refine bodyPost_ret (v := .agg #[.bool b0, .slice a0 n0 c0, .slice a1 n1 c1]) (by simp [results, Tryd.results43, go_sem, s0, s1, s2]) rfl ?_
  exact FIN.out
set_option maxHeartbeats 800000 in
theorem reduce_ciii1 {w : World} {a a' : Option Addr} {ln c ld c' n d k : Nat} {l l' : List Nat} (s : Bool) (hr : Rd w a ln c l) (hr' : Rd w a' ld c' l') (hn : nv l = n) (hd : nv l' = d) (h0 : d ≠ 0) (hl : l.length ≤ k) (hl' : l'.length ≤ k) (hk : k ≤ 1048574) (hT : Tab w) (hA : ¬ ln ≤ 2) (hB : ld = 1) (hx : d ≠ 1) (hg : 2 ≤ Nat.gcd n d) :
    Calls Tryd.prog 43 #[.bool s, .slice a ln c, .slice a' ld c'] w (RPost (rv s n d) w) := by
  have q1 := hr.le_cap
  have q2 := hr.cap_le
  have q3 := hr'.le_cap
  have q4 := hr'.cap_le
  have X_0 := Lib.hid ((hr.toNm hn hl).keep ((Keep.refl w).alloc (.cells #[.bool false, .slice none 0 0, .slice none 0 0] 25)))
  have Y_0 := Lib.hid ((hr'.toNm hd hl').keep ((Keep.refl w).alloc (.cells #[.bool false, .slice none 0 0, .slice none 0 0] 25)))
  have T_0 := Lib.hid (hT.keep ((Keep.refl w).alloc (.cells #[.bool false, .slice none 0 0, .slice none 0 0] 25)))
  have KW_0 := Lib.hid ((Keep.refl w).alloc (.cells #[.bool false, .slice none 0 0, .slice none 0 0] 25))
  have B_0 := Lib.hid (QBox.new w false none 0 0 none 0 0)
  subst hB
  have e1 : decide ((ln : Int) ≤ 2) = false := decide_eq_false (by omega)
  obtain ⟨b, o, rfl, hcell, _⟩ := hr'.cell0 (by omega)
  rw [← len_one hr'.len_eq, hd] at hcell
  have e4 : ((d : Int) == 1) = false := by simp; omega
  have hg0 : Nat.gcd n d ≠ 0 := by have := Nat.gcd_pos_of_pos_right n (Nat.pos_of_ne_zero h0); omega
  have hgk : Nat.gcd n d < BB ^ k := Nat.lt_of_le_of_lt (Nat.gcd_le_right n (Nat.pos_of_ne_zero h0)) (hr'.toNm hd hl').lt
  have GC := Lib.hid (fun w1 (h : Nm w1 (.slice a ln c) n k) (h' : Nm w1 (.slice (some ⟨b, o, none⟩) 1 c') d k) (hT1 : Tab w1) => gcd_n h h' (by omega) (by omega) hT1)
  have hblg : (bl (Nat.gcd n d) : Int) ≤ 1 ↔ ¬ 2 ≤ Nat.gcd n d := by
    constructor
    · intro h1 h2; exact bl_le_one h2 (by omega)
    · intro h1
      have : Nat.gcd n d = 1 := by omega
      rw [this]; decide
  have BT := Lib.hid (fun w1 u (h : Cn w1 u (Nat.gcd n d)) => bits_n (h.nm hgk) (by omega))
  obtain ⟨r1, r2, r3⟩ := rv_red s n h0
  obtain ⟨z, hz⟩ : ∃ z, bl (Nat.gcd n d) = z := ⟨_, rfl⟩
  obtain ⟨G, hG⟩ : ∃ G, Nat.gcd n d = G := ⟨_, rfl⟩
  rw [hz] at BT hblg
  rw [hG] at BT GC hblg hg hg0 hgk r1 r2 r3
  have hb : decide ((1 : Int) < z) = true := decide_eq_true (by omega)
  have D1 := Lib.hid (fun w1 u (h : Nm w1 (.slice a ln c) n k) (hu : Cn w1 u G) => divMod_n h (hu.nm hgk) (by omega))
  have D2 := Lib.hid (fun w1 u (h : Nm w1 (.slice (some ⟨b, o, none⟩) 1 c') d k) (hu : Cn w1 u G) => divMod_n h (hu.nm hgk) (by omega))
  have PK := Lib.hid (fun w1 x y (hx : Cn w1 x (n / G)) (hy : Cn w1 y (d / G)) => pack_c s hx hy r2)
  rw [r1] at PK
  obtain ⟨N, hN⟩ : ∃ N, n / G = N := ⟨_, rfl⟩
  obtain ⟨D, hD⟩ : ∃ D, d / G = D := ⟨_, rfl⟩
  rw [hN] at PK D1
  rw [hD] at PK D2
  obtain ⟨er, her⟩ : ∃ e, dmE G = e := ⟨_, rfl⟩
  rw [her] at D1 D2
  clear hN hD her
  obtain ⟨q, hq⟩ : ∃ q, rv s n d = q := ⟨_, rfl⟩
  rw [hq] at PK ⊢
  clear hr hr' hn hd hT hq hl hl' r1 r2 r3 hz hG hblg
  go_enter Tryd.func43, Tryd.ntmps43
  go_wp2_with fail
  refine Calls.mono (GC.out _ X_0.out Y_0.out T_0.out) ?_
  rintro e w1 ⟨gv, rfl, hG, k1⟩
  have X_1 := Lib.hid (X_0.out.keep k1)
  have Y_1 := Lib.hid (Y_0.out.keep k1)
  have B_1 := Lib.hid (B_0.out.keep k1)
  have G_1 := Lib.hid hG
  have KW_1 := Lib.hid (KW_0.out.trans k1)
  clear k1 T_0 X_0 Y_0 B_0 hG KW_0
  go_wp2_with fail
  refine Calls.mono (BT.out _ _ G_1.out) ?_
  rintro e w2 ⟨rfl, k2⟩
  have X_2 := Lib.hid (X_1.out.keep k2)
  have Y_2 := Lib.hid (Y_1.out.keep k2)
  have B_2 := Lib.hid (B_1.out.keep k2)
  have G_2 := Lib.hid (G_1.out.keep k2)
  have KW_2 := Lib.hid (KW_1.out.trans k2)
  clear k2 X_1 Y_1 B_1 G_1 KW_1
  go_wp2_with fail
  refine Calls.mono (D1.out _ _ X_2.out G_2.out) ?_
  rintro e w3 ⟨x1, y1, rfl, hP, hy1, k3⟩
  have Y_3 := Lib.hid (Y_2.out.keep k3)
  have B_3 := Lib.hid (B_2.out.keep k3)
  have G_3 := Lib.hid (G_2.out.keep k3)
  have P_3 := Lib.hid hP
  have KW_3 := Lib.hid (KW_2.out.trans k3)
  clear hy1
  clear k3 X_2 Y_2 B_2 G_2 hP KW_2
  go_wp2_with fail
  refine Calls.mono (D2.out _ _ Y_3.out G_3.out) ?_
  rintro e w4 ⟨x2, y2, rfl, hQ, hy2, k4⟩
  have B_4 := Lib.hid (B_3.out.keep k4)
  have P_4 := Lib.hid (P_3.out.keep k4)
  have Q_4 := Lib.hid hQ
  have KW_4 := Lib.hid (KW_3.out.trans k4)
  clear hy2
  clear k4 Y_3 G_3 B_3 P_3 hQ KW_3
  go_wp2_with fail
  refine Calls.mono (PK.out _ _ _ P_4.out Q_4.out) ?_
  rintro e wz ⟨u, rfl, hu, kz⟩
  obtain ⟨b0, a0, n0, c0, a1, n1, c1, rfl, hcr, hkk, f0, f1, f2, g0, g1, g2, s0, s1, s2⟩ := hu.put (B_4.out.keep kz) (KW_4.out.trans kz) (Nat.le_refl _)
  have FIN := Lib.hid (show RPost q w (.returned (.agg #[.bool b0, .slice a0 n0 c0, .slice a1 n1 c1])) _ from ⟨_, rfl, hcr, hkk⟩)
  clear hcr hkk hu kz KW_4 B_4 P_4 Q_4
  go_wp2
  refine bodyPost_ret (v := .agg #[.bool b0, .slice a0 n0 c0, .slice a1 n1 c1]) (by simp [results, Tryd.results43, go_sem, s0, s1, s2]) rfl ?_
  exact FIN.out
set_option maxHeartbeats 800000 in
theorem reduce_ciii0 {w : World} {a a' : Option Addr} {ln c ld c' n d k : Nat} {l l' : List Nat} (s : Bool) (hr : Rd w a ln c l) (hr' : Rd w a' ld c' l') (hn : nv l = n) (hd : nv l' = d) (h0 : d ≠ 0) (hl : l.length ≤ k) (hl' : l'.length ≤ k) (hk : k ≤ 1048574) (hT : Tab w) (hA : ¬ ln ≤ 2) (hB : ld = 1) (hx : d ≠ 1) (hg : ¬ 2 ≤ Nat.gcd n d) :
    Calls Tryd.prog 43 #[.bool s, .slice a ln c, .slice a' ld c'] w (RPost (rv s n d) w) := by
  have q1 := hr.le_cap
  have q2 := hr.cap_le
  have q3 := hr'.le_cap
  have q4 := hr'.cap_le
  have X_0 := Lib.hid ((hr.toNm hn hl).keep ((Keep.refl w).alloc (.cells #[.bool false, .slice none 0 0, .slice none 0 0] 25)))
  have Y_0 := Lib.hid ((hr'.toNm hd hl').keep ((Keep.refl w).alloc (.cells #[.bool false, .slice none 0 0, .slice none 0 0] 25)))
  have T_0 := Lib.hid (hT.keep ((Keep.refl w).alloc (.cells #[.bool false, .slice none 0 0, .slice none 0 0] 25)))
  have KW_0 := Lib.hid ((Keep.refl w).alloc (.cells #[.bool false, .slice none 0 0, .slice none 0 0] 25))
  have B_0 := Lib.hid (QBox.new w false none 0 0 none 0 0)
  subst hB
  have e1 : decide ((ln : Int) ≤ 2) = false := decide_eq_false (by omega)
  obtain ⟨b, o, rfl, hcell, _⟩ := hr'.cell0 (by omega)
  rw [← len_one hr'.len_eq, hd] at hcell
  have e4 : ((d : Int) == 1) = false := by simp; omega
  have hg0 : Nat.gcd n d ≠ 0 := by have := Nat.gcd_pos_of_pos_right n (Nat.pos_of_ne_zero h0); omega
  have hgk : Nat.gcd n d < BB ^ k := Nat.lt_of_le_of_lt (Nat.gcd_le_right n (Nat.pos_of_ne_zero h0)) (hr'.toNm hd hl').lt
  have GC := Lib.hid (fun w1 (h : Nm w1 (.slice a ln c) n k) (h' : Nm w1 (.slice (some ⟨b, o, none⟩) 1 c') d k) (hT1 : Tab w1) => gcd_n h h' (by omega) (by omega) hT1)
  have hblg : (bl (Nat.gcd n d) : Int) ≤ 1 ↔ ¬ 2 ≤ Nat.gcd n d := by
    constructor
    · intro h1 h2; exact bl_le_one h2 (by omega)
    · intro h1
      have : Nat.gcd n d = 1 := by omega
      rw [this]; decide
  have BT := Lib.hid (fun w1 u (h : Cn w1 u (Nat.gcd n d)) => bits_n (h.nm hgk) (by omega))
  obtain ⟨r1, r2, r3⟩ := rv_red s n h0
  obtain ⟨z, hz⟩ : ∃ z, bl (Nat.gcd n d) = z := ⟨_, rfl⟩
  obtain ⟨G, hG⟩ : ∃ G, Nat.gcd n d = G := ⟨_, rfl⟩
  rw [hz] at BT hblg
  rw [hG] at BT GC hblg hg hg0 hgk r1 r2 r3
  have hb : decide ((1 : Int) < z) = false := decide_eq_false (by omega)
  have hG1 : G = 1 := by omega
  subst hG1
  have D1 := Lib.hid (fun w1 (h : Nm w1 (.slice a ln c) n k) => make_n h (by omega))
  have D2 := Lib.hid (fun w1 (h : Nm w1 (.slice (some ⟨b, o, none⟩) 1 c') d k) => make_n h (by omega))
  rw [Nat.div_one] at r1 r2 r3
  rw [Nat.div_one] at r1 r2
  have PK := Lib.hid (fun w1 x y (hx : Cn w1 x n) (hy : Cn w1 y d) => pack_c s hx hy r2)
  obtain ⟨q, hq⟩ : ∃ q, rv s n d = q := ⟨_, rfl⟩
  rw [hq] at PK ⊢
  clear hr hr' hn hd hT hq hl hl' r1 r2 r3 hz hG hblg
  go_enter Tryd.func43, Tryd.ntmps43
  go_wp2_with fail
  refine Calls.mono (GC.out _ X_0.out Y_0.out T_0.out) ?_
  rintro e w1 ⟨gv, rfl, hG, k1⟩
  have X_1 := Lib.hid (X_0.out.keep k1)
  have Y_1 := Lib.hid (Y_0.out.keep k1)
  have B_1 := Lib.hid (B_0.out.keep k1)
  have G_1 := Lib.hid hG
  have KW_1 := Lib.hid (KW_0.out.trans k1)
  clear k1 T_0 X_0 Y_0 B_0 hG KW_0
  go_wp2_with fail
  refine Calls.mono (BT.out _ _ G_1.out) ?_
  rintro e w2 ⟨rfl, k2⟩
  have X_2 := Lib.hid (X_1.out.keep k2)
  have Y_2 := Lib.hid (Y_1.out.keep k2)
  have B_2 := Lib.hid (B_1.out.keep k2)
  have G_2 := Lib.hid (G_1.out.keep k2)
  have KW_2 := Lib.hid (KW_1.out.trans k2)
  clear k2 X_1 Y_1 B_1 G_1 KW_1
  go_wp2_with fail
  refine Calls.mono (D1.out _ X_2.out) ?_
  rintro e w3 ⟨x1, rfl, hP, k3⟩
  have Y_3 := Lib.hid (Y_2.out.keep k3)
  have B_3 := Lib.hid (B_2.out.keep k3)
  have P_3 := Lib.hid hP
  have KW_3 := Lib.hid (KW_2.out.trans k3)
  clear k3 X_2 G_2 Y_2 B_2 hP KW_2
  go_wp2_with fail
  refine Calls.mono (D2.out _ Y_3.out) ?_
  rintro e w4 ⟨x2, rfl, hQ, k4⟩
  have B_4 := Lib.hid (B_3.out.keep k4)
  have P_4 := Lib.hid (P_3.out.keep k4)
  have Q_4 := Lib.hid hQ
  have KW_4 := Lib.hid (KW_3.out.trans k4)
  clear k4 Y_3 B_3 P_3 hQ KW_3
  go_wp2_with fail
  refine Calls.mono (PK.out _ _ _ P_4.out Q_4.out) ?_
  rintro e wz ⟨u, rfl, hu, kz⟩
  obtain ⟨b0, a0, n0, c0, a1, n1, c1, rfl, hcr, hkk, f0, f1, f2, g0, g1, g2, s0, s1, s2⟩ := hu.put (B_4.out.keep kz) (KW_4.out.trans kz) (Nat.le_refl _)
  have FIN := Lib.hid (show RPost q w (.returned (.agg #[.bool b0, .slice a0 n0 c0, .slice a1 n1 c1])) _ from ⟨_, rfl, hcr, hkk⟩)
  clear hcr hkk hu kz KW_4 B_4 P_4 Q_4
  go_wp2
  refine bodyPost_ret (v := .agg #[.bool b0, .slice a0 n0 c0, .slice a1 n1 c1]) (by simp [results, Tryd.results43, go_sem, s0, s1, s2]) rfl ?_
  exact FIN.out
theorem reduce_c {w : World} {x y : Value} {n d k : Nat} (s : Bool) (hx : Nm w x n k) (hy : Nm w y d k) (h0 : d ≠ 0) (hk : k ≤ 1048574) (hT : Tab w) : Calls Tryd.prog 43 #[.bool s, x, y] w (RPost (rv s n d) w) := by
  obtain ⟨a, ln, c, l, rfl, hr, hn, hl⟩ := hx.form3
  obtain ⟨a', ld, c', l', rfl, hr', hd, hl'⟩ := hy.form3
  by_cases hA : ln ≤ 2
  · by_cases hB : ld ≤ 2
    · exact reduce_a s hr hr' hn hd h0 hl hl' hk hT hA hB
    · by_cases hg : 2 ≤ Nat.gcd n d
      · exact reduce_ci1 s hr hr' hn hd h0 hl hl' hk hT hA hB hg
      · exact reduce_ci0 s hr hr' hn hd h0 hl hl' hk hT hA hB hg
  · by_cases hB : ld = 1
    · by_cases hd1 : d = 1
      · exact reduce_b s hr hr' hn hd h0 hl hl' hk hT hA hB hd1
      · by_cases hg : 2 ≤ Nat.gcd n d
        · exact reduce_ciii1 s hr hr' hn hd h0 hl hl' hk hT hA hB hd1 hg
        · exact reduce_ciii0 s hr hr' hn hd h0 hl hl' hk hT hA hB hd1 hg
    · by_cases hg : 2 ≤ Nat.gcd n d
      · exact reduce_cii1 s hr hr' hn hd h0 hl hl' hk hT hA hB hg
      · exact reduce_cii0 s hr hr' hn hd h0 hl hl' hk hT hA hB hg
end Go.Proofs.YtnalmjbgkedcoaaDoor
