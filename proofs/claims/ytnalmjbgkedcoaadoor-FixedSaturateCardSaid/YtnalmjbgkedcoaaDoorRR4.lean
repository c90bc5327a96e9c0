/- Carried over from another seat by program (portn.py). -/
import Derived.Test.YtnalmjbgkedcoaaDoorR12
import Derived.Test.YtnalmjbgkedcoaaDoorRR3
namespace Go.Proofs.YtnalmjbgkedcoaaDoor
open Go.RowKit
set_option linter.unusedVariables false
set_option maxHeartbeats 800000 in
theorem rcanon_c {w : World} {v : Value} {q0 : Rat} {k : Nat} (h : Ra w v q0 k) (hk : k ≤ 500000) (hk1 : 1 ≤ k) : Calls Tryd.prog 32 #[v] w (RPost (q0) w) := by
  obtain ⟨s, a, n, c, a', n', c', N, D, rfl, hN, hD, rfl⟩ := h.form
  obtain ⟨B_0, R_0, KW_0⟩ := op1 w s a n c a' n' c'
  have X_0 := Lib.hid (hN.keep KW_0.out)
  have Y_0 := Lib.hid (hD.keep KW_0.out)
  have ON := Lib.hid (fun w1 (h : Nm w1 (.slice a' n' c') D k) => one_c h (by omega) hk1)
  have QU := Lib.hid (fun w1 u (h : Nm w1 (.slice a n c) N k) (h' : Nm w1 u (dn D) k) => quot_c s h h' (dn_ne D) hk)
  rw [rv_dn] at QU
  obtain ⟨q, hq⟩ : ∃ q, rv s N D = q := ⟨_, rfl⟩
  rw [hq] at QU ⊢
  clear h hN hD hq
  go_enter Tryd.func32, Tryd.ntmps32
  have X_1 := Lib.hid (X_0.out.keep (keep_drew _))
  clear X_0
  have Y_1 := Lib.hid (Y_0.out.keep (keep_drew _))
  clear Y_0
  have B_1 := Lib.hid (B_0.out.keep (keep_drew _))
  clear B_0
  have R_1 := Lib.hid (R_0.out.keep (keep_drew _))
  clear R_0
  have KW_1 := Lib.hid (KW_0.out.trans (keep_drew _))
  clear KW_0
  obtain ⟨cB_1_0, cB_1_1, cB_1_2, -, -, -, -⟩ := id B_1.out
  go_wp2
  go_region_held3 (fun w' => w'.cell? ⟨w.heap.size, 0, none⟩ = some (.bool s) ∧ w'.cell? ⟨w.heap.size, 1, none⟩ = some (.slice a n c) ∧ w'.cell? ⟨w.heap.size, 2, none⟩ = some (.slice a' n' c')) (first | exact ⟨yB_0, yB_1, yB_2⟩ | exact ⟨zB_0, zB_1, zB_2⟩ | exact ⟨cB_2_0, cB_2_1, cB_2_2⟩ | exact ⟨cB_1_0, cB_1_1, cB_1_2⟩ | go_keep)
    (first
      | (go_at_call 57; ((with_reducible refine Calls.mono (QU.out _ _ X_2.out U_2.out) ?_); rintro e wz ⟨u, rfl, hu, kz⟩; obtain ⟨b0, a0, n0, c0, a1, n1, c1, rfl, hcr, hkk, f0, f1, f2, g0, g1, g2, s0, s1, s2⟩ := hu.put (R_2.out.keep kz) (KW_2.out.trans kz) (by omega); have FIN := Lib.hid (show RPost q w (.returned (.agg #[.bool b0, .slice a0 n0 c0, .slice a1 n1 c1])) _ from ⟨_, rfl, hcr, hkk⟩); have YB := (B_2.out.keep kz).other3 (g := w.heap.size + 1) (by omega) (.bool b0) (.slice a0 n0 c0) (.slice a1 n1 c1); obtain ⟨yB_0, yB_1, yB_2, -, -, -, -⟩ := YB; obtain ⟨zB_0, zB_1, zB_2, -, -, -, -⟩ := B_2.out.keep kz; clear hcr hkk hu kz))
      | (go_at_call 55; ((with_reducible refine Calls.mono (ON.out _ Y_1.out) ?_); rintro e w2 ⟨u, rfl, hu, k2⟩; have X_2 := Lib.hid (X_1.out.keep k2); have Y_2 := Lib.hid (Y_1.out.keep k2); have B_2 := Lib.hid (B_1.out.keep k2); have R_2 := Lib.hid (R_1.out.keep k2); have U_2 := Lib.hid hu; clear hu; have KW_2 := Lib.hid (KW_1.out.trans k2); obtain ⟨cB_2_0, cB_2_1, cB_2_2, -, -, -, -⟩ := id B_2.out; clear k2)))
  all_goals
    go_wp2
    refine bodyPost_ret (v := .agg #[.bool b0, .slice a0 n0 c0, .slice a1 n1 c1]) (by simp [results, Tryd.results32, go_sem, s0, s1, s2]) rfl ?_
    exact FIN.out
theorem field2 (w : World) (b : Bool) (x y : Value) : Sem.run Tryd.prog (Instr.field 25 (.agg #[.bool b, x, y]) 2) w = .ok y w := by
  simp [Instr.field, asAgg, go_sem]
theorem rS_sgn (s : Bool) (n d : Nat) : sgn (iv s n) = rS (rv s n d) := by
  rw [rS_rv]
  rcases sgn_facts (iv s n) with ⟨h, h1⟩ | ⟨h, h1⟩ | ⟨h, h1⟩
  · rw [h, iC, if_pos h1]
  · rw [h, h1, iC_self]
  · rw [h, iC, if_neg (by omega), if_pos h1]
theorem rqsign_c {w : World} {v : Value} {q : Rat} {k : Nat} (h : Ra w v q k) (hk : k ≤ 1048576) : Calls Tryd.prog 31 #[v] w (VPost (rS q) w) := by
  obtain ⟨s, a, n, c, a', n', c', N, D, rfl, hN, hD, hq⟩ := h.form
  have KW_0 := Lib.hid ((Keep.refl w).alloc (.cells #[.bool s, .slice a n c, .slice a' n' c'] 25))
  have B_0 := Lib.hid (QBox.new w s a n c a' n' c')
  have SG := Lib.hid (risign_c (s := s) (v := .agg #[.bool s, .slice a n c]) ⟨_, rfl, hN.keep KW_0.out⟩ (by omega))
  rw [rS_sgn s N D, hq] at SG
  obtain ⟨z, hz⟩ : ∃ z, rS q = z := ⟨_, rfl⟩
  rw [hz] at SG ⊢
  clear h hN hD hq hz
  go_enter Tryd.func31, Tryd.ntmps31
  obtain ⟨b0, b1, b2, _, _, _, _⟩ := id B_0.out
  go_wp2_with fail
  refine Calls.mono SG.out ?_
  rintro e w1 ⟨rfl, k1⟩
  have FIN := Lib.hid (show VPost z w (.returned (.int .i64 z)) w1 from ⟨rfl, KW_0.out.trans k1⟩)
  clear k1
  go_wp2_with fail
  go_ret
  exact FIN.out
set_option maxHeartbeats 800000 in
theorem rmakeq_0 {w : World} {s t : Bool} {a b : Option Addr} {n c m g N M k : Nat} (hN : Nm w (.slice a n c) N k) (hM : Nm w (.slice b m g) M k) (hk : k ≤ 500000) (h0 : M = 0) : Calls Tryd.prog 33 #[.agg #[.bool s, .slice a n c], .agg #[.bool t, .slice b m g]] w (R2Post (0) (.int .i64 3) w) := by
  obtain ⟨B_0, C_0, R_0, KW_0⟩ := opm w s a n c t b m g
  have X_0 := Lib.hid (hN.keep KW_0.out)
  have Y_0 := Lib.hid (hM.keep KW_0.out)
  have SG := Lib.hid (fun w1 (h : Nm w1 (.slice b m g) M k) => risign_c (s := t) (v := .agg #[.bool t, .slice b m g]) ⟨_, rfl, h⟩ (by omega))
  obtain ⟨z, hz⟩ : ∃ z, sgn (iv t M) = z := ⟨_, rfl⟩
  have hz0 : (z == 0) = true := by
    rw [← hz]
    subst h0; cases t <;> decide
  rw [hz] at SG
  clear hN hM h0 hz
  go_enter Tryd.func33, Tryd.ntmps33
  obtain ⟨B_c0, B_c1, -, -, -⟩ := id B_0.out
  obtain ⟨C_c0, C_c1, -, -, -⟩ := id C_0.out
  obtain ⟨R_c0, R_c1, R_c2, -, -, -, -⟩ := id R_0.out
  go_wp2_with fail
  refine Calls.mono (SG.out _ Y_0.out) ?_
  rintro e w1 ⟨rfl, k1⟩
  clear B_c0 B_c1 C_c0 C_c1 R_c0 R_c1 R_c2
  have B_1 := Lib.hid (B_0.out.keep k1)
  have C_1 := Lib.hid (C_0.out.keep k1)
  have R_1 := Lib.hid (R_0.out.keep k1)
  have KW_1 := Lib.hid (KW_0.out.trans k1)
  clear k1 Y_0 X_0 B_0 C_0 R_0 KW_0
  clear B_1 C_1
  obtain ⟨F, hkk, s0, s1, s2⟩ := put_of (w0 := w) (q := 0) (b := false) (a := none) (n := 0) (c := 0) (a' := none) (n' := 0) (c' := 0) (by decide) (by show Rd _ none 0 0 (dig 0); rw [dig_zero]; exact Rd.nil _) (by show Rd _ none 0 0 (dig 0); rw [dig_zero]; exact Rd.nil _) R_1.out KW_1.out (by omega)
  obtain ⟨_, e0, hcr, _⟩ := F
  cases e0
  have FIN := Lib.hid (show R2Post 0 (.int .i64 3) w (.returned (.tuple #[.agg #[.bool false, .slice none 0 0, .slice none 0 0], .int .i64 3])) _ from ⟨_, rfl, hcr, hkk⟩)
  obtain ⟨y0, y1, y2, f0, f1, f2, _⟩ := id R_1.out
  clear hkk hcr
  go_wp2
  refine bodyPost_ret (v := .tuple #[.agg #[.bool false, .slice none 0 0, .slice none 0 0], .int .i64 3]) (by simp [results, Tryd.results33, go_sem, s0, s1, s2]) rfl ?_
  exact FIN.out
set_option maxHeartbeats 800000 in
theorem rmakeq_1 {w : World} {s t : Bool} {a b : Option Addr} {n c m g N M k : Nat} (hN : Nm w (.slice a n c) N k) (hM : Nm w (.slice b m g) M k) (hk : k ≤ 500000) (h0 : M ≠ 0) : Calls Tryd.prog 33 #[.agg #[.bool s, .slice a n c], .agg #[.bool t, .slice b m g]] w (R2Post (rv (s != t) N M) (.int .i64 0) w) := by
  obtain ⟨B_0, C_0, R_0, KW_0⟩ := opm w s a n c t b m g
  have X_0 := Lib.hid (hN.keep KW_0.out)
  have Y_0 := Lib.hid (hM.keep KW_0.out)
  have SG := Lib.hid (fun w1 (h : Nm w1 (.slice b m g) M k) => risign_c (s := t) (v := .agg #[.bool t, .slice b m g]) ⟨_, rfl, h⟩ (by omega))
  obtain ⟨z, hz⟩ : ∃ z, sgn (iv t M) = z := ⟨_, rfl⟩
  have hz0 : (z == 0) = false := by
    rw [← hz]
    rcases sgn_facts (iv t M) with ⟨e, _⟩ | ⟨_, e⟩ | ⟨e, _⟩
    · rw [e]; decide
    · exact absurd (by rw [← iv_natAbs t M, e]; rfl) h0
    · rw [e]; decide
  rw [hz] at SG
  have RD := Lib.hid (fun w1 (h : Nm w1 (.slice a n c) N k) (h' : Nm w1 (.slice b m g) M k) => quot_c (s != t) h h' h0 hk)
  obtain ⟨q, hq⟩ : ∃ q, rv (s != t) N M = q := ⟨_, rfl⟩
  rw [hq] at RD ⊢
  clear hN hM h0 hz hq
  go_enter Tryd.func33, Tryd.ntmps33
  obtain ⟨B_c0, B_c1, -, -, -⟩ := id B_0.out
  obtain ⟨C_c0, C_c1, -, -, -⟩ := id C_0.out
  obtain ⟨R_c0, R_c1, R_c2, -, -, -, -⟩ := id R_0.out
  go_wp2_with fail
  refine Calls.mono (SG.out _ Y_0.out) ?_
  rintro e w1 ⟨rfl, k1⟩
  clear B_c0 B_c1 C_c0 C_c1 R_c0 R_c1 R_c2
  have X_1 := Lib.hid (X_0.out.keep k1)
  have Y_1 := Lib.hid (Y_0.out.keep k1)
  have B_1 := Lib.hid (B_0.out.keep k1)
  have C_1 := Lib.hid (C_0.out.keep k1)
  have R_1 := Lib.hid (R_0.out.keep k1)
  have KW_1 := Lib.hid (KW_0.out.trans k1)
  clear k1 X_0 Y_0 B_0 C_0 R_0 KW_0
  obtain ⟨B_c0, B_c1, -, -, -⟩ := id B_1.out
  obtain ⟨C_c0, C_c1, -, -, -⟩ := id C_1.out
  obtain ⟨R_c0, R_c1, R_c2, -, -, -, -⟩ := id R_1.out
  go_wp2_with fail
  refine Calls.mono (RD.out _ X_1.out Y_1.out) ?_
  rintro e wz ⟨u, rfl, hu, kz⟩
  clear B_c0 B_c1 C_c0 C_c1 R_c0 R_c1 R_c2
  obtain ⟨b0, a0, n0, c0, a1, n1, c1, rfl, hcr, hkk, f0, f1, f2, g0, g1, g2, s0, s1, s2⟩ := hu.put (R_1.out.keep kz) (KW_1.out.trans kz) (by omega)
  have FIN := Lib.hid (show R2Post q (.int .i64 0) w (.returned (.tuple #[.agg #[.bool b0, .slice a0 n0 c0, .slice a1 n1 c1], .int .i64 0])) _ from ⟨_, rfl, hcr, hkk⟩)
  clear hcr hkk hu kz KW_1 X_1 Y_1 B_1 C_1 R_1
  go_wp2
  refine bodyPost_ret (v := .tuple #[.agg #[.bool b0, .slice a0 n0 c0, .slice a1 n1 c1], .int .i64 0]) (by simp [results, Tryd.results33, go_sem, s0, s1, s2]) rfl ?_
  exact FIN.out
set_option maxHeartbeats 800000 in
theorem rqfrac_0 (x y : Int) (w : World) (h1 : -9223372036854775808 ≤ x) (h2 : x ≤ 9223372036854775807) (h3 : -9223372036854775808 ≤ y) (h4 : y ≤ 9223372036854775807) (h0 : y.natAbs = 0) : Calls Tryd.prog 16 #[.int .i64 x, .int .i64 y] w (R2Post (0) (.int .i64 3) w) := by
  have KW_0 := Lib.hid ((Keep.refl w).alloc (.cells #[.bool false, .slice none 0 0, .slice none 0 0] 25))
  have R_0 := Lib.hid (QBox.new w false none 0 0 none 0 0)
  have OX := Lib.hid (fun w1 => riof_c x w1 h1 h2)
  have OY := Lib.hid (fun w1 => riof_c y w1 h3 h4)
  have hB : BB ^ 2 = 18446744073709551616 := by decide
  have MK := Lib.hid (fun w1 u v (hu : Ci w1 u x) (hv : Ci w1 v y) => show Calls Tryd.prog 33 #[u, v] w1 (R2Post (0) (.int .i64 3) w1) from by
    obtain ⟨a, n, c, rfl, _, _⟩ := hu.form'
    obtain ⟨b, m, g, rfl, _, _⟩ := hv.form'
    exact rmakeq_0 (hu.cn.nm (k := 2) (by rw [hB]; omega)) (hv.cn.nm (k := 2) (by rw [hB]; omega)) (by omega) h0)
  obtain ⟨q, hq⟩ : ∃ q : Rat, 0 = q := ⟨_, rfl⟩
  rw [hq] at MK ⊢
  clear h1 h2 h3 h4 hq h0 hB
  go_enter Tryd.func16, Tryd.ntmps16
  go_wp2_with fail
  refine Calls.mono (OX.out _) ?_
  rintro e w1 ⟨vX, rfl, hX, k1⟩
  have R_1 := Lib.hid (R_0.out.keep k1)
  have X_1 := Lib.hid hX
  have KW_1 := Lib.hid (KW_0.out.trans k1)
  clear k1 R_0 hX KW_0
  go_wp2_with fail
  refine Calls.mono (OY.out _) ?_
  rintro e w2 ⟨vY, rfl, hY, k2⟩
  have R_2 := Lib.hid (R_1.out.keep k2)
  have X_2 := Lib.hid (X_1.out.keep k2)
  have Y_2 := Lib.hid hY
  have KW_2 := Lib.hid (KW_1.out.trans k2)
  clear k2 R_1 X_1 hY KW_1
  obtain ⟨R_c0, R_c1, R_c2, -, -, -, -⟩ := id R_2.out
  go_wp2_with fail
  refine Calls.mono (MK.out _ _ _ X_2.out Y_2.out) ?_
  rintro e wz ⟨u, rfl, hu, kz⟩
  clear R_c0 R_c1 R_c2
  obtain ⟨b0, a0, n0, c0, a1, n1, c1, rfl, hcr, hkk, f0, f1, f2, g0, g1, g2, s0, s1, s2⟩ := hu.put (R_2.out.keep kz) (KW_2.out.trans kz) (Nat.le_refl _)
  have FIN := Lib.hid (show R2Post q (.int .i64 3) w (.returned (.tuple #[.agg #[.bool b0, .slice a0 n0 c0, .slice a1 n1 c1], .int .i64 3])) _ from ⟨_, rfl, hcr, hkk⟩)
  clear hcr hkk hu kz KW_2 R_2 X_2 Y_2
  go_wp2
  refine bodyPost_ret (v := .tuple #[.agg #[.bool b0, .slice a0 n0 c0, .slice a1 n1 c1], .int .i64 3]) (by simp [results, Tryd.results16, go_sem, s0, s1, s2]) rfl ?_
  exact FIN.out
set_option maxHeartbeats 800000 in
theorem rqfrac_1 (x y : Int) (w : World) (h1 : -9223372036854775808 ≤ x) (h2 : x ≤ 9223372036854775807) (h3 : -9223372036854775808 ≤ y) (h4 : y ≤ 9223372036854775807) (h0 : y.natAbs ≠ 0) : Calls Tryd.prog 16 #[.int .i64 x, .int .i64 y] w (R2Post ((x : Rat) / (y : Rat)) (.int .i64 0) w) := by
  have KW_0 := Lib.hid ((Keep.refl w).alloc (.cells #[.bool false, .slice none 0 0, .slice none 0 0] 25))
  have R_0 := Lib.hid (QBox.new w false none 0 0 none 0 0)
  have OX := Lib.hid (fun w1 => riof_c x w1 h1 h2)
  have OY := Lib.hid (fun w1 => riof_c y w1 h3 h4)
  have hB : BB ^ 2 = 18446744073709551616 := by decide
  have MK := Lib.hid (fun w1 u v (hu : Ci w1 u x) (hv : Ci w1 v y) => show Calls Tryd.prog 33 #[u, v] w1 (R2Post ((x : Rat) / (y : Rat)) (.int .i64 0) w1) from by
    obtain ⟨a, n, c, rfl, _, _⟩ := hu.form'
    obtain ⟨b, m, g, rfl, _, _⟩ := hv.form'
    exact rv_frac (x := x) h0 ▸ rmakeq_1 (hu.cn.nm (k := 2) (by rw [hB]; omega)) (hv.cn.nm (k := 2) (by rw [hB]; omega)) (by omega) h0)
  obtain ⟨q, hq⟩ : ∃ q : Rat, (x : Rat) / (y : Rat) = q := ⟨_, rfl⟩
  rw [hq] at MK ⊢
  clear h1 h2 h3 h4 hq h0 hB 
  go_enter Tryd.func16, Tryd.ntmps16
  go_wp2_with fail
  refine Calls.mono (OX.out _) ?_
  rintro e w1 ⟨vX, rfl, hX, k1⟩
  have R_1 := Lib.hid (R_0.out.keep k1)
  have X_1 := Lib.hid hX
  have KW_1 := Lib.hid (KW_0.out.trans k1)
  clear k1 R_0 hX KW_0
  go_wp2_with fail
  refine Calls.mono (OY.out _) ?_
  rintro e w2 ⟨vY, rfl, hY, k2⟩
  have R_2 := Lib.hid (R_1.out.keep k2)
  have X_2 := Lib.hid (X_1.out.keep k2)
  have Y_2 := Lib.hid hY
  have KW_2 := Lib.hid (KW_1.out.trans k2)
  clear k2 R_1 X_1 hY KW_1
  obtain ⟨R_c0, R_c1, R_c2, -, -, -, -⟩ := id R_2.out
  go_wp2_with fail
  refine Calls.mono (MK.out _ _ _ X_2.out Y_2.out) ?_
  rintro e wz ⟨u, rfl, hu, kz⟩
  clear R_c0 R_c1 R_c2
  obtain ⟨b0, a0, n0, c0, a1, n1, c1, rfl, hcr, hkk, f0, f1, f2, g0, g1, g2, s0, s1, s2⟩ := hu.put (R_2.out.keep kz) (KW_2.out.trans kz) (Nat.le_refl _)
  have FIN := Lib.hid (show R2Post q (.int .i64 0) w (.returned (.tuple #[.agg #[.bool b0, .slice a0 n0 c0, .slice a1 n1 c1], .int .i64 0])) _ from ⟨_, rfl, hcr, hkk⟩)
  clear hcr hkk hu kz KW_2 R_2 X_2 Y_2
  go_wp2
  refine bodyPost_ret (v := .tuple #[.agg #[.bool b0, .slice a0 n0 c0, .slice a1 n1 c1], .int .i64 0]) (by simp [results, Tryd.results16, go_sem, s0, s1, s2]) rfl ?_
  exact FIN.out
end Go.Proofs.YtnalmjbgkedcoaaDoor
