/- Carried over from another seat by program (portn.py). -/
import Derived.Test.YtnalmjbgkedcoaaDoorR10
namespace Go.Proofs.YtnalmjbgkedcoaaDoor
open Go.RowKit
set_option linter.unusedVariables false
theorem iC_self (x : Int) : iC x x = 0 := by unfold iC; rw [if_neg (Int.lt_irrefl _), if_neg (Int.lt_irrefl _)]
theorem iC_neg (x y : Int) : iC (-x) (-y) = -iC x y := by
  unfold iC
  rcases Int.lt_trichotomy x y with h | h | h
  · rw [if_neg (by omega), if_pos (by omega), if_pos h]; rfl
  · subst h; rw [if_neg (Int.lt_irrefl _), if_neg (Int.lt_irrefl _), if_neg (Int.lt_irrefl _), if_neg (Int.lt_irrefl _)]; rfl
  · rw [if_pos (by omega), if_neg (by omega), if_pos h]
theorem iC_cmpv (n m : Nat) : cmpv n m = iC n m := by
  unfold cmpv iC
  by_cases h : n < m
  · rw [if_pos h, if_pos (by omega)]
  · by_cases h2 : m < n
    · rw [if_neg h, if_pos h2, if_neg (by omega), if_pos (by omega)]
    · rw [if_neg h, if_neg h2, if_neg (by omega), if_neg (by omega)]
theorem rS_range (p : Rat) : rS p = -1 ∨ rS p = 0 ∨ rS p = 1 := by
  unfold rS; rcases rC_facts p 0 with h | h | h <;> simp [h.1]
theorem iC_range (x y : Int) : iC x y = -1 ∨ iC x y = 0 ∨ iC x y = 1 := by
  unfold iC; split
  · exact .inl rfl
  · split
    · exact .inr (.inr rfl)
    · exact .inr (.inl rfl)
/-- numbers of unlike signs, or two zeros -/
theorem rC_unlike {p q : Rat} (h : rS p ≠ rS q ∨ rS p = 0) : iC (rS p) (rS q) = rC p q := by
  unfold rS at *
  rcases rC_facts p 0 with a | a | a <;> rcases rC_facts q 0 with b | b | b <;> rw [a.1, b.1] at h ⊢
  · simp at h
  · rw [rC_lt (by grind)]; decide
  · rw [rC_lt (by grind)]; decide
  · rw [rC_gt (by grind)]; decide
  · rw [a.2, b.2, rC_self]; decide
  · rw [rC_lt (by grind)]; decide
  · rw [rC_gt (by grind)]; decide
  · rw [rC_gt (by grind)]; decide
  · simp at h
theorem rC_like (s : Bool) {N D M E : Nat} (hN : N ≠ 0) : rC (rv s N D) (rv s M E) = rS (rv s N D) * iC (N * dn E : Nat) (M * dn D : Nat) := by
  rw [rC_rv, rS_n s D hN]
  cases s
  · show iC (N * dn E : Nat) (M * dn D : Nat) = 1 * _; omega
  · show iC (-((N * dn E : Nat) : Int)) (-((M * dn D : Nat) : Int)) = -1 * _
    rw [iC_neg]; omega
theorem rS_sign {s t : Bool} {N D M E : Nat} (h : rS (rv s N D) = rS (rv t M E)) (h0 : rS (rv s N D) ≠ 0) : s = t ∧ N ≠ 0 ∧ M ≠ 0 := by
  have hN : N ≠ 0 := by rintro rfl; exact h0 (rS_0 _ _)
  have hM : M ≠ 0 := by rintro rfl; rw [rS_0] at h; exact h0 h
  rw [rS_n s D hN, rS_n t E hM] at h
  refine ⟨?_, hN, hM⟩
  cases s <;> cases t <;> simp_all
theorem mul_range {x y : Int} (h : x = -1 ∨ x = 0 ∨ x = 1) (h' : y = -1 ∨ y = 0 ∨ y = 1) : wrap64 (x * y) = x * y := by
  rcases h with rfl | rfl | rfl <;> rcases h' with rfl | rfl | rfl <;> exact IntWalk.wrap64_in _ ⟨by decide, by decide⟩
theorem mul_range' {x y : Int} (h : x = -1 ∨ x = 0 ∨ x = 1) (h' : y = -1 ∨ y = 0 ∨ y = 1) : IntKind.i64.wrap (x * y) = x * y := by
  rcases h with rfl | rfl | rfl <;> rcases h' with rfl | rfl | rfl <;> decide
theorem op2n (w : World) (s : Bool) (a : Option Addr) (n c : Nat) (a' : Option Addr) (n' c' : Nat) (t : Bool) (b : Option Addr) (m e : Nat) (b' : Option Addr) (m' e' : Nat) :
    Hid (QBox w.heap.size (.bool s) (.slice a n c) (.slice a' n' c') ((w.alloc (.cells #[.bool s, .slice a n c, .slice a' n' c'] 25)).alloc (.cells #[.bool t, .slice b m e, .slice b' m' e'] 25))) ∧ Hid (QBox (w.heap.size + 1) (.bool t) (.slice b m e) (.slice b' m' e') ((w.alloc (.cells #[.bool s, .slice a n c, .slice a' n' c'] 25)).alloc (.cells #[.bool t, .slice b m e, .slice b' m' e'] 25))) ∧ Hid (Keep w ((w.alloc (.cells #[.bool s, .slice a n c, .slice a' n' c'] 25)).alloc (.cells #[.bool t, .slice b m e, .slice b' m' e'] 25))) :=
  ⟨Lib.hid ((QBox.new w s a n c a' n' c').keep ((Keep.refl _).alloc _)), Lib.hid ((QBox.new (w.alloc _) t b m e b' m' e').at (sz1 _ _)), Lib.hid (((Keep.refl w).alloc _).alloc _)⟩
theorem opm (w : World) (s : Bool) (a : Option Addr) (n c : Nat) (t : Bool) (b : Option Addr) (m g : Nat) :
    Hid (RBox w.heap.size (.bool s) (.slice a n c) (((w.alloc (.cells #[.bool s, .slice a n c] 51)).alloc (.cells #[.bool t, .slice b m g] 51)).alloc (.cells #[.bool false, .slice none 0 0, .slice none 0 0] 25))) ∧ Hid (RBox (w.heap.size + 1) (.bool t) (.slice b m g) (((w.alloc (.cells #[.bool s, .slice a n c] 51)).alloc (.cells #[.bool t, .slice b m g] 51)).alloc (.cells #[.bool false, .slice none 0 0, .slice none 0 0] 25))) ∧ Hid (QBox (w.heap.size + 1 + 1) (.bool false) (.slice none 0 0) (.slice none 0 0) (((w.alloc (.cells #[.bool s, .slice a n c] 51)).alloc (.cells #[.bool t, .slice b m g] 51)).alloc (.cells #[.bool false, .slice none 0 0, .slice none 0 0] 25))) ∧ Hid (Keep w (((w.alloc (.cells #[.bool s, .slice a n c] 51)).alloc (.cells #[.bool t, .slice b m g] 51)).alloc (.cells #[.bool false, .slice none 0 0, .slice none 0 0] 25))) :=
  ⟨Lib.hid ((RBox.new w s a n c).keep (((Keep.refl _).alloc _).alloc _)), Lib.hid (((RBox.new (w.alloc _) t b m g).at (sz1 _ _)).keep ((Keep.refl _).alloc _)), Lib.hid ((QBox.new ((w.alloc _).alloc _) false none 0 0 none 0 0).at (sz2 _ _ _)), Lib.hid ((((Keep.refl w).alloc _).alloc _).alloc _)⟩
set_option maxHeartbeats 800000 in
theorem make_0 {w : World} {s t : Bool} {a b : Option Addr} {n c m g N M k : Nat} (hN : Nm w (.slice a n c) N k) (hM : Nm w (.slice b m g) M k) (hk : k ≤ 1048574) (h0 : M = 0) : Calls Tryd.prog 28 #[.agg #[.bool s, .slice a n c], .agg #[.bool t, .slice b m g]] w (R2Post (0) (.int .i64 3) w) := by
  obtain ⟨B_0, C_0, R_0, KW_0⟩ := opm w s a n c t b m g
  have X_0 := Lib.hid (hN.keep KW_0.out)
  have Y_0 := Lib.hid (hM.keep KW_0.out)
  have SG := Lib.hid (fun w1 (h : Nm w1 (.slice b m g) M k) => isign_c (s := t) (v := .agg #[.bool t, .slice b m g]) ⟨_, rfl, h⟩ (by omega))
  obtain ⟨z, hz⟩ : ∃ z, sgn (iv t M) = z := ⟨_, rfl⟩
  have hz0 : (z == 0) = true := by
    rw [← hz]
    subst h0; cases t <;> decide
  rw [hz] at SG
  clear hN hM h0 hz
  go_enter Tryd.func28, Tryd.ntmps28
  obtain ⟨B_c0, B_c1, -, -, -⟩ := id B_0.out
  obtain ⟨C_c0, C_c1, -, -, -⟩ := id C_0.out
  obtain ⟨R_c0, R_c1, R_c2, -, -, -, -⟩ := id R_0.out
  go_wp2_with fail
  refine Calls.mono (SG.out _ Y_0.out) ?_
  rintro e w1 ⟨rfl, k1⟩
  clear B_c0 B_c1 C_c0 C_c1 R_c0 R_c1 R_c2
  have B_1 := Lib.hid (B_0.out.keep k1)
  have C_1 := Lib.hid (C_0.out.keep k1)
  have R_1 := Lib.hid (R_0.out.keep k1)
  have KW_1 := Lib.hid (KW_0.out.trans k1)
  clear k1 Y_0 X_0 B_0 C_0 R_0 KW_0
  clear B_1 C_1
  obtain ⟨F, hkk, s0, s1, s2⟩ := put_of (w0 := w) (q := 0) (b := false) (a := none) (n := 0) (c := 0) (a' := none) (n' := 0) (c' := 0) (by decide) (by show Rd _ none 0 0 (dig 0); rw [dig_zero]; exact Rd.nil _) (by show Rd _ none 0 0 (dig 0); rw [dig_zero]; exact Rd.nil _) R_1.out KW_1.out (by omega)
  obtain ⟨_, e0, hcr, _⟩ := F
  cases e0
  have FIN := Lib.hid (show R2Post 0 (.int .i64 3) w (.returned (.tuple #[.agg #[.bool false, .slice none 0 0, .slice none 0 0], .int .i64 3])) _ from ⟨_, rfl, hcr, hkk⟩)
  obtain ⟨y0, y1, y2, f0, f1, f2, _⟩ := id R_1.out
  clear hkk hcr
  go_wp2
  refine bodyPost_ret (v := .tuple #[.agg #[.bool false, .slice none 0 0, .slice none 0 0], .int .i64 3]) (by simp [results, Tryd.results28, go_sem, s0, s1, s2]) rfl ?_
  exact FIN.out
set_option maxHeartbeats 800000 in
theorem make_1 {w : World} {s t : Bool} {a b : Option Addr} {n c m g N M k : Nat} (hN : Nm w (.slice a n c) N k) (hM : Nm w (.slice b m g) M k) (hk : k ≤ 1048574) (hT : Tab w) (h0 : M ≠ 0) : Calls Tryd.prog 28 #[.agg #[.bool s, .slice a n c], .agg #[.bool t, .slice b m g]] w (R2Post (rv (s != t) N M) (.int .i64 0) w) := by
  obtain ⟨B_0, C_0, R_0, KW_0⟩ := opm w s a n c t b m g
  have X_0 := Lib.hid (hN.keep KW_0.out)
  have Y_0 := Lib.hid (hM.keep KW_0.out)
  have SG := Lib.hid (fun w1 (h : Nm w1 (.slice b m g) M k) => isign_c (s := t) (v := .agg #[.bool t, .slice b m g]) ⟨_, rfl, h⟩ (by omega))
  obtain ⟨z, hz⟩ : ∃ z, sgn (iv t M) = z := ⟨_, rfl⟩
  have hz0 : (z == 0) = false := by
    rw [← hz]
    rcases sgn_facts (iv t M) with ⟨e, _⟩ | ⟨_, e⟩ | ⟨e, _⟩
    · rw [e]; decide
    · exact absurd (by rw [← iv_natAbs t M, e]; rfl) h0
    · rw [e]; decide
  rw [hz] at SG
  have T_0 := Lib.hid (hT.keep KW_0.out)
  have RD := Lib.hid (fun w1 (h : Nm w1 (.slice a n c) N k) (h' : Nm w1 (.slice b m g) M k) (hT1 : Tab w1) => reduce_c (s != t) h h' h0 hk hT1)
  obtain ⟨q, hq⟩ : ∃ q, rv (s != t) N M = q := ⟨_, rfl⟩
  rw [hq] at RD ⊢
  clear hN hM h0 hz hT hq
  go_enter Tryd.func28, Tryd.ntmps28
  obtain ⟨B_c0, B_c1, -, -, -⟩ := id B_0.out
  obtain ⟨C_c0, C_c1, -, -, -⟩ := id C_0.out
  obtain ⟨R_c0, R_c1, R_c2, -, -, -, -⟩ := id R_0.out
  go_wp2_with fail
  refine Calls.mono (SG.out _ Y_0.out) ?_
  rintro e w1 ⟨rfl, k1⟩
  clear B_c0 B_c1 C_c0 C_c1 R_c0 R_c1 R_c2
  have X_1 := Lib.hid (X_0.out.keep k1)
  have Y_1 := Lib.hid (Y_0.out.keep k1)
  have T_1 := Lib.hid (T_0.out.keep k1)
  have B_1 := Lib.hid (B_0.out.keep k1)
  have C_1 := Lib.hid (C_0.out.keep k1)
  have R_1 := Lib.hid (R_0.out.keep k1)
  have KW_1 := Lib.hid (KW_0.out.trans k1)
  clear k1 X_0 Y_0 T_0 B_0 C_0 R_0 KW_0
  obtain ⟨B_c0, B_c1, -, -, -⟩ := id B_1.out
  obtain ⟨C_c0, C_c1, -, -, -⟩ := id C_1.out
  obtain ⟨R_c0, R_c1, R_c2, -, -, -, -⟩ := id R_1.out
  go_wp2_with fail
  refine Calls.mono (RD.out _ X_1.out Y_1.out T_1.out) ?_
  rintro e wz ⟨u, rfl, hu, kz⟩
  clear B_c0 B_c1 C_c0 C_c1 R_c0 R_c1 R_c2
  obtain ⟨b0, a0, n0, c0, a1, n1, c1, rfl, hcr, hkk, f0, f1, f2, g0, g1, g2, s0, s1, s2⟩ := hu.put (R_1.out.keep kz) (KW_1.out.trans kz) (by omega)
  have FIN := Lib.hid (show R2Post q (.int .i64 0) w (.returned (.tuple #[.agg #[.bool b0, .slice a0 n0 c0, .slice a1 n1 c1], .int .i64 0])) _ from ⟨_, rfl, hcr, hkk⟩)
  clear hcr hkk hu kz KW_1 X_1 Y_1 T_1 B_1 C_1 R_1
  go_wp2
  refine bodyPost_ret (v := .tuple #[.agg #[.bool b0, .slice a0 n0 c0, .slice a1 n1 c1], .int .i64 0]) (by simp [results, Tryd.results28, go_sem, s0, s1, s2]) rfl ?_
  exact FIN.out
theorem rv_frac {x y : Int} (h : y.natAbs ≠ 0) : rv (decide (x < 0) != decide (y < 0)) x.natAbs y.natAbs = (x : Rat) / (y : Rat) := by
  rw [Rat.div_def, ← rv_of x, ← rv_of y, rv_inv _ 0 h, rv_mul, dn_zero, Nat.mul_one, Nat.one_mul, dn_of h]
set_option maxHeartbeats 800000 in
theorem qfrac_0 (x y : Int) (w : World) (h1 : -9223372036854775808 ≤ x) (h2 : x ≤ 9223372036854775807) (h3 : -9223372036854775808 ≤ y) (h4 : y ≤ 9223372036854775807) (h0 : y.natAbs = 0) : Calls Tryd.prog 21 #[.int .i64 x, .int .i64 y] w (R2Post (0) (.int .i64 3) w) := by
  have KW_0 := Lib.hid ((Keep.refl w).alloc (.cells #[.bool false, .slice none 0 0, .slice none 0 0] 25))
  have R_0 := Lib.hid (QBox.new w false none 0 0 none 0 0)
  have OX := Lib.hid (fun w1 => iof_c x w1 h1 h2)
  have OY := Lib.hid (fun w1 => iof_c y w1 h3 h4)
  have hB : BB ^ 2 = 18446744073709551616 := by decide
  have MK := Lib.hid (fun w1 u v (hu : Ci w1 u x) (hv : Ci w1 v y) => show Calls Tryd.prog 28 #[u, v] w1 (R2Post (0) (.int .i64 3) w1) from by
    obtain ⟨a, n, c, rfl, _, _⟩ := hu.form'
    obtain ⟨b, m, g, rfl, _, _⟩ := hv.form'
    exact make_0 (hu.cn.nm (k := 2) (by rw [hB]; omega)) (hv.cn.nm (k := 2) (by rw [hB]; omega)) (by omega) h0)
  obtain ⟨q, hq⟩ : ∃ q : Rat, 0 = q := ⟨_, rfl⟩
  rw [hq] at MK ⊢
  clear h1 h2 h3 h4 hq h0 hB
  go_enter Tryd.func21, Tryd.ntmps21
  go_wp2_with fail
  refine Calls.mono (OX.out _) ?_
  rintro e w1 ⟨vX, rfl, hX, k1⟩
  have R_1 := Lib.hid (R_0.out.keep k1)
  have X_1 := Lib.hid hX
  have KW_1 := Lib.hid (KW_0.out.trans k1)
  clear k1 R_0 hX KW_0
  go_wp2_with fail
  refine Calls.mono (OY.out _) ?_
  rintro e w2 ⟨vY, rfl, hY, k2⟩
  have R_2 := Lib.hid (R_1.out.keep k2)
  have X_2 := Lib.hid (X_1.out.keep k2)
  have Y_2 := Lib.hid hY
  have KW_2 := Lib.hid (KW_1.out.trans k2)
  clear k2 R_1 X_1 hY KW_1
  obtain ⟨R_c0, R_c1, R_c2, -, -, -, -⟩ := id R_2.out
  go_wp2_with fail
  refine Calls.mono (MK.out _ _ _ X_2.out Y_2.out) ?_
  rintro e wz ⟨u, rfl, hu, kz⟩
  clear R_c0 R_c1 R_c2
  obtain ⟨b0, a0, n0, c0, a1, n1, c1, rfl, hcr, hkk, f0, f1, f2, g0, g1, g2, s0, s1, s2⟩ := hu.put (R_2.out.keep kz) (KW_2.out.trans kz) (Nat.le_refl _)
  have FIN := Lib.hid (show R2Post q (.int .i64 3) w (.returned (.tuple #[.agg #[.bool b0, .slice a0 n0 c0, .slice a1 n1 c1], .int .i64 3])) _ from ⟨_, rfl, hcr, hkk⟩)
  clear hcr hkk hu kz KW_2 R_2 X_2 Y_2
  go_wp2
  refine bodyPost_ret (v := .tuple #[.agg #[.bool b0, .slice a0 n0 c0, .slice a1 n1 c1], .int .i64 3]) (by simp [results, Tryd.results21, go_sem, s0, s1, s2]) rfl ?_
  exact FIN.out
set_option maxHeartbeats 800000 in
theorem qfrac_1 (x y : Int) (w : World) (h1 : -9223372036854775808 ≤ x) (h2 : x ≤ 9223372036854775807) (h3 : -9223372036854775808 ≤ y) (h4 : y ≤ 9223372036854775807) (hT : Tab w) (h0 : y.natAbs ≠ 0) : Calls Tryd.prog 21 #[.int .i64 x, .int .i64 y] w (R2Post ((x : Rat) / (y : Rat)) (.int .i64 0) w) := by
  have KW_0 := Lib.hid ((Keep.refl w).alloc (.cells #[.bool false, .slice none 0 0, .slice none 0 0] 25))
  have R_0 := Lib.hid (QBox.new w false none 0 0 none 0 0)
  have OX := Lib.hid (fun w1 => iof_c x w1 h1 h2)
  have OY := Lib.hid (fun w1 => iof_c y w1 h3 h4)
  have hB : BB ^ 2 = 18446744073709551616 := by decide
  have MK := Lib.hid (fun w1 u v (hu : Ci w1 u x) (hv : Ci w1 v y) (hT1 : Tab w1) => show Calls Tryd.prog 28 #[u, v] w1 (R2Post ((x : Rat) / (y : Rat)) (.int .i64 0) w1) from by
    obtain ⟨a, n, c, rfl, _, _⟩ := hu.form'
    obtain ⟨b, m, g, rfl, _, _⟩ := hv.form'
    exact rv_frac (x := x) h0 ▸ make_1 (hu.cn.nm (k := 2) (by rw [hB]; omega)) (hv.cn.nm (k := 2) (by rw [hB]; omega)) (by omega) hT1 h0)
  obtain ⟨q, hq⟩ : ∃ q : Rat, (x : Rat) / (y : Rat) = q := ⟨_, rfl⟩
  rw [hq] at MK ⊢
  clear h1 h2 h3 h4 hq h0 hB 
  have T_0 := Lib.hid (hT.keep KW_0.out)
  clear hT
  go_enter Tryd.func21, Tryd.ntmps21
  go_wp2_with fail
  refine Calls.mono (OX.out _) ?_
  rintro e w1 ⟨vX, rfl, hX, k1⟩
  have T_1 := Lib.hid (T_0.out.keep k1)
  have R_1 := Lib.hid (R_0.out.keep k1)
  have X_1 := Lib.hid hX
  have KW_1 := Lib.hid (KW_0.out.trans k1)
  clear k1 T_0 R_0 hX KW_0
  go_wp2_with fail
  refine Calls.mono (OY.out _) ?_
  rintro e w2 ⟨vY, rfl, hY, k2⟩
  have T_2 := Lib.hid (T_1.out.keep k2)
  have R_2 := Lib.hid (R_1.out.keep k2)
  have X_2 := Lib.hid (X_1.out.keep k2)
  have Y_2 := Lib.hid hY
  have KW_2 := Lib.hid (KW_1.out.trans k2)
  clear k2 T_1 R_1 X_1 hY KW_1
  obtain ⟨R_c0, R_c1, R_c2, -, -, -, -⟩ := id R_2.out
  go_wp2_with fail
  refine Calls.mono (MK.out _ _ _ X_2.out Y_2.out T_2.out) ?_
  rintro e wz ⟨u, rfl, hu, kz⟩
  clear R_c0 R_c1 R_c2
  obtain ⟨b0, a0, n0, c0, a1, n1, c1, rfl, hcr, hkk, f0, f1, f2, g0, g1, g2, s0, s1, s2⟩ := hu.put (R_2.out.keep kz) (KW_2.out.trans kz) (Nat.le_refl _)
  have FIN := Lib.hid (show R2Post q (.int .i64 0) w (.returned (.tuple #[.agg #[.bool b0, .slice a0 n0 c0, .slice a1 n1 c1], .int .i64 0])) _ from ⟨_, rfl, hcr, hkk⟩)
  clear hcr hkk hu kz KW_2 T_2 R_2 X_2 Y_2
  go_wp2
  refine bodyPost_ret (v := .tuple #[.agg #[.bool b0, .slice a0 n0 c0, .slice a1 n1 c1], .int .i64 0]) (by simp [results, Tryd.results21, go_sem, s0, s1, s2]) rfl ?_
  exact FIN.out
end Go.Proofs.YtnalmjbgkedcoaaDoor
