/- Carried over from another seat by program (portn.py). -/
import Derived.Test.YtnalmjbgkedcoaaDoorR9
namespace Go.Proofs.YtnalmjbgkedcoaaDoor
open Go.RowKit
set_option linter.unusedVariables false
set_option maxHeartbeats 1000000 in
theorem mul_w {w : World} {s t : Bool} {a a' b b' : Option Addr} {n c n' c' m g m' g' : Nat} {l l' r r' : List Nat} (hx : Rd w a n c l) (hx' : Rd w a' n' c' l') (hy : Rd w b m g r) (hy' : Rd w b' m' g' r') (h1 : n ≤ 1) (h2 : n' ≤ 1) (h3 : m ≤ 1) (h4 : m' ≤ 1) (hT : Tab w) : Calls Tryd.prog 22 #[.agg #[.bool s, .slice a n c, .slice a' n' c'], .agg #[.bool t, .slice b m g, .slice b' m' g']] w (RPost (rv s (nv l) (nv l') * rv t (nv r) (nv r')) w) := by
  obtain ⟨B_0, C_0, R_0, KW_0⟩ := op2 w s a n c a' n' c' t b m g b' m' g'
  have X_0 := Lib.hid (hx.keep KW_0.out)
  have X'_0 := Lib.hid (hx'.keep KW_0.out)
  have Y_0 := Lib.hid (hy.keep KW_0.out)
  have Y'_0 := Lib.hid (hy'.keep KW_0.out)
  have T_0 := Lib.hid (hT.keep KW_0.out)
  have lx := hx.len_eq
  have lx' := hx'.len_eq
  have ly := hy.len_eq
  have ly' := hy'.len_eq
  have bN : nv l < 4294967296 := short_lt hx.lim (by omega)
  have bD : dn (nv l') < 4294967296 := dn_lt (short_lt hx'.lim (by omega))
  have bM : nv r < 4294967296 := short_lt hy.lim (by omega)
  have bE : dn (nv r') < 4294967296 := dn_lt (short_lt hy'.lim (by omega))
  have WA := Lib.hid (fun w1 (g1 : Rd w1 a n c l) (g2 : Rd w1 a' n' c' l') => words_t (s := s) g1 g2 h1 h2)
  have WB := Lib.hid (fun w1 (g1 : Rd w1 b m g r) (g2 : Rd w1 b' m' g' r') => words_t (s := t) g1 g2 h3 h4)
  have pX := mul_word bN bM
  have pZ := mul_word bD bE
  have dZ : dn (nv l') * dn (nv r') ≠ 0 := Nat.mul_ne_zero (dn_ne _) (dn_ne _)
  rw [rv_mul]
  obtain ⟨N, hN⟩ : ∃ x, nv l = x := ⟨_, rfl⟩
  obtain ⟨D, hD⟩ : ∃ x, dn (nv l') = x := ⟨_, rfl⟩
  obtain ⟨M, hM⟩ : ∃ x, nv r = x := ⟨_, rfl⟩
  obtain ⟨E, hE⟩ : ∃ x, dn (nv r') = x := ⟨_, rfl⟩
  rw [hN, hD] at WA
  rw [hM, hE] at WB
  simp only [hN, hD, hM, hE] at pX pZ dZ ⊢
  obtain ⟨x, hx0⟩ : ∃ x, N * M = x := ⟨_, rfl⟩
  obtain ⟨z, hz0⟩ : ∃ x, D * E = x := ⟨_, rfl⟩
  rw [hx0] at pX ⊢
  rw [hz0] at pZ dZ ⊢
  have m1 := mul_wrap hx0 pX
  have m3 := mul_wrap hz0 pZ
  have RW := Lib.hid (fun w1 (hT1 : Tab w1) => reduceWords_c (w := w1) (s != t) x z pX pZ dZ hT1)
  obtain ⟨q, hq⟩ : ∃ q, rv (s != t) x z = q := ⟨_, rfl⟩
  rw [hq] at RW ⊢
  clear hx hx' hy hy' hT hq hN hD hM hE lx lx' ly ly' hx0 hz0
  go_enter Tryd.func22, Tryd.ntmps22
  obtain ⟨B_c0, B_c1, B_c2, -, -, -, -⟩ := id B_0.out
  obtain ⟨C_c0, C_c1, C_c2, -, -, -, -⟩ := id C_0.out
  obtain ⟨R_c0, R_c1, R_c2, -, -, -, -⟩ := id R_0.out
  go_wp2_with fail
  refine Calls.mono (WA.out _ X_0.out X'_0.out) ?_
  rintro e w1 ⟨rfl, k1⟩
  clear B_c0 B_c1 B_c2 C_c0 C_c1 C_c2 R_c0 R_c1 R_c2
  have Y_1 := Lib.hid (Y_0.out.keep k1)
  have Y'_1 := Lib.hid (Y'_0.out.keep k1)
  have T_1 := Lib.hid (T_0.out.keep k1)
  have B_1 := Lib.hid (B_0.out.keep k1)
  have C_1 := Lib.hid (C_0.out.keep k1)
  have R_1 := Lib.hid (R_0.out.keep k1)
  have KW_1 := Lib.hid (KW_0.out.trans k1)
  clear k1 X_0 X'_0 Y_0 Y'_0 T_0 B_0 C_0 R_0 KW_0
  obtain ⟨B_c0, B_c1, B_c2, -, -, -, -⟩ := id B_1.out
  obtain ⟨C_c0, C_c1, C_c2, -, -, -, -⟩ := id C_1.out
  obtain ⟨R_c0, R_c1, R_c2, -, -, -, -⟩ := id R_1.out
  go_wp2_with fail
  refine Calls.mono (WB.out _ Y_1.out Y'_1.out) ?_
  rintro e w2 ⟨rfl, k2⟩
  clear B_c0 B_c1 B_c2 C_c0 C_c1 C_c2 R_c0 R_c1 R_c2
  have T_2 := Lib.hid (T_1.out.keep k2)
  have B_2 := Lib.hid (B_1.out.keep k2)
  have C_2 := Lib.hid (C_1.out.keep k2)
  have R_2 := Lib.hid (R_1.out.keep k2)
  have KW_2 := Lib.hid (KW_1.out.trans k2)
  clear k2 Y_1 Y'_1 T_1 B_1 C_1 R_1 KW_1
  obtain ⟨B_c0, B_c1, B_c2, -, -, -, -⟩ := id B_2.out
  obtain ⟨C_c0, C_c1, C_c2, -, -, -, -⟩ := id C_2.out
  obtain ⟨R_c0, R_c1, R_c2, -, -, -, -⟩ := id R_2.out
  go_wp2_with fail
  refine Calls.mono (RW.out _ T_2.out) ?_
  clear m1 m3
  rintro e wz ⟨u, rfl, hu, kz⟩
  clear B_c0 B_c1 B_c2 C_c0 C_c1 C_c2 R_c0 R_c1 R_c2
  obtain ⟨b0, a0, n0, c0, a1, n1, c1, rfl, hcr, hkk, f0, f1, f2, g0, g1, g2, s0, s1, s2⟩ := hu.put (R_2.out.keep kz) (KW_2.out.trans kz) (by omega)
  have FIN := Lib.hid (show RPost q w (.returned (.agg #[.bool b0, .slice a0 n0 c0, .slice a1 n1 c1])) _ from ⟨_, rfl, hcr, hkk⟩)
  clear hcr hkk hu kz KW_2 T_2 B_2 C_2 R_2
  go_wp2
  refine bodyPost_ret (v := .agg #[.bool b0, .slice a0 n0 c0, .slice a1 n1 c1]) (by simp [results, Tryd.results22, go_sem, s0, s1, s2]) rfl ?_
  exact FIN.out
set_option maxHeartbeats 1000000 in
theorem mul_l1 {w : World} {s t : Bool} {a a' b b' : Option Addr} {n c n' c' m g m' g' : Nat} {l l' r r' : List Nat} (hx : Rd w a n c l) (hx' : Rd w a' n' c' l') (hy : Rd w b m g r) (hy' : Rd w b' m' g' r') {k : Nat} (hl : l.length ≤ k) (hl' : l'.length ≤ k) (hr : r.length ≤ k) (hr' : r'.length ≤ k) (h : ¬ (n ≤ 1 ∧ n' ≤ 1)) (hk : k < 48) (hk1 : 1 ≤ k) (hT : Tab w) : Calls Tryd.prog 22 #[.agg #[.bool s, .slice a n c, .slice a' n' c'], .agg #[.bool t, .slice b m g, .slice b' m' g']] w (RPost (rv s (nv l) (nv l') * rv t (nv r) (nv r')) w) := by
  obtain ⟨B_0, C_0, R_0, KW_0⟩ := op2 w s a n c a' n' c' t b m g b' m' g'
  have X_0 := Lib.hid (hx.keep KW_0.out)
  have X'_0 := Lib.hid (hx'.keep KW_0.out)
  have Y_0 := Lib.hid (hy.keep KW_0.out)
  have Y'_0 := Lib.hid (hy'.keep KW_0.out)
  have T_0 := Lib.hid (hT.keep KW_0.out)
  have WA := Lib.hid (fun w1 (h1 : Rd w1 a n c l) (h2 : Rd w1 a' n' c' l') => words_f (s := s) h1 h2 h)
  have WB := Lib.hid (fun w1 (h1 : Rd w1 b m g r) (h2 : Rd w1 b' m' g' r') => words_any (s := t) h1 h2)
  have DA := Lib.hid (fun w1 (h : Rd w1 a' n' c' l') => den_c (s := s) (a := a) (n := n) (c := c) (h.toNm rfl hl') (by omega) hk1)
  have DB := Lib.hid (fun w1 (h : Rd w1 b' m' g' r') => den_c (s := t) (a := b) (n := m) (c := g) (h.toNm rfl hr') (by omega) hk1)
  have M1 := Lib.hid (fun w1 (h : Rd w1 a n c l) (h' : Rd w1 b m g r) => mul_n (h.toNm rfl hl) (h'.toNm rfl hr) (by omega) (by omega) (.inl hk))
  have M2 := Lib.hid (fun w1 u v (h : Nm w1 u (dn (nv l')) k) (h' : Nm w1 v (dn (nv r')) k) => mul_n h h' (by omega) (by omega) (.inl hk))
  have lN := (hx.toNm rfl hl).lt
  have lM := (hy.toNm rfl hr).lt
  have lD := dn_lt' (hx'.toNm rfl hl').lt hk1
  have lE := dn_lt' (hy'.toNm rfl hr').lt hk1
  have l1 := lt_mul_pow lN lM
  have l2 := lt_mul_pow lD lE
  have hde0 : dn (nv l') * dn (nv r') ≠ 0 := Nat.mul_ne_zero (dn_ne _) (dn_ne _)
  have RD := Lib.hid (fun w1 x u (hx : Cn w1 x (nv l * nv r)) (hu : Cn w1 u (dn (nv l') * dn (nv r'))) (hT1 : Tab w1) => reduce_c (!(s == t)) (hx.nm l1) (hu.nm l2) hde0 (by omega) hT1)
  have hq1 : rv (!(s == t)) (nv l * nv r) (dn (nv l') * dn (nv r')) = rv s (nv l) (nv l') * rv t (nv r) (nv r') := (rv_mul s t _ _ _ _).symm
  rw [hq1] at RD
  obtain ⟨q, hq⟩ : ∃ q, rv s (nv l) (nv l') * rv t (nv r) (nv r') = q := ⟨_, rfl⟩
  rw [hq] at RD ⊢
  clear hx hx' hy hy' hT hq hq1 lN lM lD lE l1 l2 hde0 h
  go_enter Tryd.func22, Tryd.ntmps22
  obtain ⟨B_c0, B_c1, B_c2, -, -, -, -⟩ := id B_0.out
  obtain ⟨C_c0, C_c1, C_c2, -, -, -, -⟩ := id C_0.out
  obtain ⟨R_c0, R_c1, R_c2, -, -, -, -⟩ := id R_0.out
  go_wp2_with fail
  refine Calls.mono (WA.out _ X_0.out X'_0.out) ?_
  rintro e w1 ⟨rfl, k1⟩
  clear B_c0 B_c1 B_c2 C_c0 C_c1 C_c2 R_c0 R_c1 R_c2
  have X_1 := Lib.hid (X_0.out.keep k1)
  have X'_1 := Lib.hid (X'_0.out.keep k1)
  have Y_1 := Lib.hid (Y_0.out.keep k1)
  have Y'_1 := Lib.hid (Y'_0.out.keep k1)
  have T_1 := Lib.hid (T_0.out.keep k1)
  have B_1 := Lib.hid (B_0.out.keep k1)
  have C_1 := Lib.hid (C_0.out.keep k1)
  have R_1 := Lib.hid (R_0.out.keep k1)
  have KW_1 := Lib.hid (KW_0.out.trans k1)
  clear k1 X_0 X'_0 Y_0 Y'_0 T_0 B_0 C_0 R_0 KW_0
  obtain ⟨B_c0, B_c1, B_c2, -, -, -, -⟩ := id B_1.out
  obtain ⟨C_c0, C_c1, C_c2, -, -, -, -⟩ := id C_1.out
  obtain ⟨R_c0, R_c1, R_c2, -, -, -, -⟩ := id R_1.out
  go_wp2_with fail
  refine Calls.mono (WB.out _ Y_1.out Y'_1.out) ?_
  rintro e w2 ⟨⟨wp, wq, wr, rfl⟩, k2⟩
  clear B_c0 B_c1 B_c2 C_c0 C_c1 C_c2 R_c0 R_c1 R_c2
  have X_2 := Lib.hid (X_1.out.keep k2)
  have X'_2 := Lib.hid (X'_1.out.keep k2)
  have Y_2 := Lib.hid (Y_1.out.keep k2)
  have Y'_2 := Lib.hid (Y'_1.out.keep k2)
  have T_2 := Lib.hid (T_1.out.keep k2)
  have B_2 := Lib.hid (B_1.out.keep k2)
  have C_2 := Lib.hid (C_1.out.keep k2)
  have R_2 := Lib.hid (R_1.out.keep k2)
  have KW_2 := Lib.hid (KW_1.out.trans k2)
  clear k2 X_1 X'_1 Y_1 Y'_1 T_1 B_1 C_1 R_1 KW_1
  have X_3 := Lib.hid (X_2.out.keep (keep_drew _))
  clear X_2
  have X'_3 := Lib.hid (X'_2.out.keep (keep_drew _))
  clear X'_2
  have Y_3 := Lib.hid (Y_2.out.keep (keep_drew _))
  clear Y_2
  have Y'_3 := Lib.hid (Y'_2.out.keep (keep_drew _))
  clear Y'_2
  have T_3 := Lib.hid (T_2.out.keep (keep_drew _))
  clear T_2
  have B_3 := Lib.hid (B_2.out.keep (keep_drew _))
  clear B_2
  have C_3 := Lib.hid (C_2.out.keep (keep_drew _))
  clear C_2
  have R_3 := Lib.hid (R_2.out.keep (keep_drew _))
  clear R_2
  have KW_3 := Lib.hid (KW_2.out.trans (keep_drew _))
  clear KW_2
  obtain ⟨cB_3_0, cB_3_1, cB_3_2, -, -, -, -⟩ := id B_3.out
  obtain ⟨cC_3_0, cC_3_1, cC_3_2, -, -, -, -⟩ := id C_3.out
  go_wp2
  go_region_held3 (fun w' => w'.cell? ⟨w.heap.size, 0, none⟩ = some (.bool s) ∧ w'.cell? ⟨w.heap.size, 1, none⟩ = some (.slice a n c) ∧ w'.cell? ⟨w.heap.size, 2, none⟩ = some (.slice a' n' c') ∧ w'.cell? ⟨w.heap.size + 1, 0, none⟩ = some (.bool t) ∧ w'.cell? ⟨w.heap.size + 1, 1, none⟩ = some (.slice b m g) ∧ w'.cell? ⟨w.heap.size + 1, 2, none⟩ = some (.slice b' m' g')) (first | exact ⟨yB_0, yB_1, yB_2, yC_0, yC_1, yC_2⟩ | exact ⟨zB_0, zB_1, zB_2, zC_0, zC_1, zC_2⟩ | exact ⟨cB_7_0, cB_7_1, cB_7_2, cC_7_0, cC_7_1, cC_7_2⟩ | exact ⟨cB_6_0, cB_6_1, cB_6_2, cC_6_0, cC_6_1, cC_6_2⟩ | exact ⟨cB_5_0, cB_5_1, cB_5_2, cC_5_0, cC_5_1, cC_5_2⟩ | exact ⟨cB_4_0, cB_4_1, cB_4_2, cC_4_0, cC_4_1, cC_4_2⟩ | exact ⟨cB_3_0, cB_3_1, cB_3_2, cC_3_0, cC_3_1, cC_3_2⟩ | go_keep)
    (first
      | (go_at_call 43; ((with_reducible refine Calls.mono (RD.out _ _ _ P_7.out Q_7.out T_7.out) ?_); rintro e wz ⟨u, rfl, hu, kz⟩; obtain ⟨b0, a0, n0, c0, a1, n1, c1, rfl, hcr, hkk, f0, f1, f2, g0, g1, g2, s0, s1, s2⟩ := hu.put (R_7.out.keep kz) (KW_7.out.trans kz) (by omega); have FIN := Lib.hid (show RPost q w (.returned (.agg #[.bool b0, .slice a0 n0 c0, .slice a1 n1 c1])) _ from ⟨_, rfl, hcr, hkk⟩); have YB := (B_7.out.keep kz).other3 (g := w.heap.size + 1 + 1) (by omega) (.bool b0) (.slice a0 n0 c0) (.slice a1 n1 c1); obtain ⟨yB_0, yB_1, yB_2, -, -, -, -⟩ := YB; obtain ⟨zB_0, zB_1, zB_2, -, -, -, -⟩ := B_7.out.keep kz; have YC := (C_7.out.keep kz).other3 (g := w.heap.size + 1 + 1) (by omega) (.bool b0) (.slice a0 n0 c0) (.slice a1 n1 c1); obtain ⟨yC_0, yC_1, yC_2, -, -, -, -⟩ := YC; obtain ⟨zC_0, zC_1, zC_2, -, -, -, -⟩ := C_7.out.keep kz; clear hcr hkk hu kz))
      | (go_at_call_of 44 (vA); ((with_reducible refine Calls.mono (M2.out _ _ _ U_6.out V_6.out) ?_); rintro e w7 ⟨vQ, rfl, hQ, k7⟩; have X_7 := Lib.hid (X_6.out.keep k7); have X'_7 := Lib.hid (X'_6.out.keep k7); have Y_7 := Lib.hid (Y_6.out.keep k7); have Y'_7 := Lib.hid (Y'_6.out.keep k7); have T_7 := Lib.hid (T_6.out.keep k7); have B_7 := Lib.hid (B_6.out.keep k7); have C_7 := Lib.hid (C_6.out.keep k7); have R_7 := Lib.hid (R_6.out.keep k7); have P_7 := Lib.hid (P_6.out.keep k7); have U_7 := Lib.hid (U_6.out.keep k7); have V_7 := Lib.hid (V_6.out.keep k7); have Q_7 := Lib.hid hQ; clear hQ; have KW_7 := Lib.hid (KW_6.out.trans k7); obtain ⟨cB_7_0, cB_7_1, cB_7_2, -, -, -, -⟩ := id B_7.out; obtain ⟨cC_7_0, cC_7_1, cC_7_2, -, -, -, -⟩ := id C_7.out; clear k7))
      | (go_at_call_of 45 (Value.agg #[Value.bool t, Value.slice b m g, Value.slice b' m' g']); ((with_reducible refine Calls.mono (DB.out _ Y'_5.out) ?_); rintro e w6 ⟨vB, rfl, hu2, k6⟩; have X_6 := Lib.hid (X_5.out.keep k6); have X'_6 := Lib.hid (X'_5.out.keep k6); have Y_6 := Lib.hid (Y_5.out.keep k6); have Y'_6 := Lib.hid (Y'_5.out.keep k6); have T_6 := Lib.hid (T_5.out.keep k6); have B_6 := Lib.hid (B_5.out.keep k6); have C_6 := Lib.hid (C_5.out.keep k6); have R_6 := Lib.hid (R_5.out.keep k6); have P_6 := Lib.hid (P_5.out.keep k6); have U_6 := Lib.hid (U_5.out.keep k6); have V_6 := Lib.hid hu2; clear hu2; have KW_6 := Lib.hid (KW_5.out.trans k6); obtain ⟨cB_6_0, cB_6_1, cB_6_2, -, -, -, -⟩ := id B_6.out; obtain ⟨cC_6_0, cC_6_1, cC_6_2, -, -, -, -⟩ := id C_6.out; clear k6))
      | (go_at_call_of 45 (Value.agg #[Value.bool s, Value.slice a n c, Value.slice a' n' c']); ((with_reducible refine Calls.mono (DA.out _ X'_4.out) ?_); rintro e w5 ⟨vA, rfl, hu1, k5⟩; have X_5 := Lib.hid (X_4.out.keep k5); have X'_5 := Lib.hid (X'_4.out.keep k5); have Y_5 := Lib.hid (Y_4.out.keep k5); have Y'_5 := Lib.hid (Y'_4.out.keep k5); have T_5 := Lib.hid (T_4.out.keep k5); have B_5 := Lib.hid (B_4.out.keep k5); have C_5 := Lib.hid (C_4.out.keep k5); have R_5 := Lib.hid (R_4.out.keep k5); have P_5 := Lib.hid (P_4.out.keep k5); have U_5 := Lib.hid hu1; clear hu1; have KW_5 := Lib.hid (KW_4.out.trans k5); obtain ⟨cB_5_0, cB_5_1, cB_5_2, -, -, -, -⟩ := id B_5.out; obtain ⟨cC_5_0, cC_5_1, cC_5_2, -, -, -, -⟩ := id C_5.out; clear k5))
      | (go_at_call_of 44 (Value.slice a n c); ((with_reducible refine Calls.mono (M1.out _ X_3.out Y_3.out) ?_); rintro e w4 ⟨vP, rfl, hP, k4⟩; have X_4 := Lib.hid (X_3.out.keep k4); have X'_4 := Lib.hid (X'_3.out.keep k4); have Y_4 := Lib.hid (Y_3.out.keep k4); have Y'_4 := Lib.hid (Y'_3.out.keep k4); have T_4 := Lib.hid (T_3.out.keep k4); have B_4 := Lib.hid (B_3.out.keep k4); have C_4 := Lib.hid (C_3.out.keep k4); have R_4 := Lib.hid (R_3.out.keep k4); have P_4 := Lib.hid hP; clear hP; have KW_4 := Lib.hid (KW_3.out.trans k4); obtain ⟨cB_4_0, cB_4_1, cB_4_2, -, -, -, -⟩ := id B_4.out; obtain ⟨cC_4_0, cC_4_1, cC_4_2, -, -, -, -⟩ := id C_4.out; clear k4)))
  all_goals
    go_wp2
    refine bodyPost_ret (v := .agg #[.bool b0, .slice a0 n0 c0, .slice a1 n1 c1]) (by simp [results, Tryd.results22, go_sem, s0, s1, s2]) rfl ?_
    exact FIN.out
set_option maxHeartbeats 1000000 in
theorem mul_l2 {w : World} {s t : Bool} {a a' b b' : Option Addr} {n c n' c' m g m' g' : Nat} {l l' r r' : List Nat} (hx : Rd w a n c l) (hx' : Rd w a' n' c' l') (hy : Rd w b m g r) (hy' : Rd w b' m' g' r') {k : Nat} (hl : l.length ≤ k) (hl' : l'.length ≤ k) (hr : r.length ≤ k) (hr' : r'.length ≤ k) (h1 : n ≤ 1) (h2 : n' ≤ 1) (h : ¬ (m ≤ 1 ∧ m' ≤ 1)) (hk : k < 48) (hk1 : 1 ≤ k) (hT : Tab w) : Calls Tryd.prog 22 #[.agg #[.bool s, .slice a n c, .slice a' n' c'], .agg #[.bool t, .slice b m g, .slice b' m' g']] w (RPost (rv s (nv l) (nv l') * rv t (nv r) (nv r')) w) := by
  obtain ⟨B_0, C_0, R_0, KW_0⟩ := op2 w s a n c a' n' c' t b m g b' m' g'
  have X_0 := Lib.hid (hx.keep KW_0.out)
  have X'_0 := Lib.hid (hx'.keep KW_0.out)
  have Y_0 := Lib.hid (hy.keep KW_0.out)
  have Y'_0 := Lib.hid (hy'.keep KW_0.out)
  have T_0 := Lib.hid (hT.keep KW_0.out)
  have WA := Lib.hid (fun w1 (g1 : Rd w1 a n c l) (g2 : Rd w1 a' n' c' l') => words_t (s := s) g1 g2 h1 h2)
  have WB := Lib.hid (fun w1 (h1 : Rd w1 b m g r) (h2 : Rd w1 b' m' g' r') => words_f (s := t) h1 h2 h)
  have DA := Lib.hid (fun w1 (h : Rd w1 a' n' c' l') => den_c (s := s) (a := a) (n := n) (c := c) (h.toNm rfl hl') (by omega) hk1)
  have DB := Lib.hid (fun w1 (h : Rd w1 b' m' g' r') => den_c (s := t) (a := b) (n := m) (c := g) (h.toNm rfl hr') (by omega) hk1)
  have M1 := Lib.hid (fun w1 (h : Rd w1 a n c l) (h' : Rd w1 b m g r) => mul_n (h.toNm rfl hl) (h'.toNm rfl hr) (by omega) (by omega) (.inl hk))
  have M2 := Lib.hid (fun w1 u v (h : Nm w1 u (dn (nv l')) k) (h' : Nm w1 v (dn (nv r')) k) => mul_n h h' (by omega) (by omega) (.inl hk))
  have lN := (hx.toNm rfl hl).lt
  have lM := (hy.toNm rfl hr).lt
  have lD := dn_lt' (hx'.toNm rfl hl').lt hk1
  have lE := dn_lt' (hy'.toNm rfl hr').lt hk1
  have l1 := lt_mul_pow lN lM
  have l2 := lt_mul_pow lD lE
  have hde0 : dn (nv l') * dn (nv r') ≠ 0 := Nat.mul_ne_zero (dn_ne _) (dn_ne _)
  have RD := Lib.hid (fun w1 x u (hx : Cn w1 x (nv l * nv r)) (hu : Cn w1 u (dn (nv l') * dn (nv r'))) (hT1 : Tab w1) => reduce_c (!(s == t)) (hx.nm l1) (hu.nm l2) hde0 (by omega) hT1)
  have hq1 : rv (!(s == t)) (nv l * nv r) (dn (nv l') * dn (nv r')) = rv s (nv l) (nv l') * rv t (nv r) (nv r') := (rv_mul s t _ _ _ _).symm
  rw [hq1] at RD
  obtain ⟨q, hq⟩ : ∃ q, rv s (nv l) (nv l') * rv t (nv r) (nv r') = q := ⟨_, rfl⟩
  rw [hq] at RD ⊢
  clear hx hx' hy hy' hT hq hq1 lN lM lD lE l1 l2 hde0
  go_enter Tryd.func22, Tryd.ntmps22
  obtain ⟨B_c0, B_c1, B_c2, -, -, -, -⟩ := id B_0.out
  obtain ⟨C_c0, C_c1, C_c2, -, -, -, -⟩ := id C_0.out
  obtain ⟨R_c0, R_c1, R_c2, -, -, -, -⟩ := id R_0.out
  go_wp2_with fail
  refine Calls.mono (WA.out _ X_0.out X'_0.out) ?_
  rintro e w1 ⟨rfl, k1⟩
  clear B_c0 B_c1 B_c2 C_c0 C_c1 C_c2 R_c0 R_c1 R_c2
  have X_1 := Lib.hid (X_0.out.keep k1)
  have X'_1 := Lib.hid (X'_0.out.keep k1)
  have Y_1 := Lib.hid (Y_0.out.keep k1)
  have Y'_1 := Lib.hid (Y'_0.out.keep k1)
  have T_1 := Lib.hid (T_0.out.keep k1)
  have B_1 := Lib.hid (B_0.out.keep k1)
  have C_1 := Lib.hid (C_0.out.keep k1)
  have R_1 := Lib.hid (R_0.out.keep k1)
  have KW_1 := Lib.hid (KW_0.out.trans k1)
  clear k1 X_0 X'_0 Y_0 Y'_0 T_0 B_0 C_0 R_0 KW_0
  obtain ⟨B_c0, B_c1, B_c2, -, -, -, -⟩ := id B_1.out
  obtain ⟨C_c0, C_c1, C_c2, -, -, -, -⟩ := id C_1.out
  obtain ⟨R_c0, R_c1, R_c2, -, -, -, -⟩ := id R_1.out
  go_wp2_with fail
  refine Calls.mono (WB.out _ Y_1.out Y'_1.out) ?_
  rintro e w2 ⟨rfl, k2⟩
  clear B_c0 B_c1 B_c2 C_c0 C_c1 C_c2 R_c0 R_c1 R_c2
  have X_2 := Lib.hid (X_1.out.keep k2)
  have X'_2 := Lib.hid (X'_1.out.keep k2)
  have Y_2 := Lib.hid (Y_1.out.keep k2)
  have Y'_2 := Lib.hid (Y'_1.out.keep k2)
  have T_2 := Lib.hid (T_1.out.keep k2)
  have B_2 := Lib.hid (B_1.out.keep k2)
  have C_2 := Lib.hid (C_1.out.keep k2)
  have R_2 := Lib.hid (R_1.out.keep k2)
  have KW_2 := Lib.hid (KW_1.out.trans k2)
  clear k2 X_1 X'_1 Y_1 Y'_1 T_1 B_1 C_1 R_1 KW_1
  have X_3 := Lib.hid (X_2.out.keep (keep_drew _))
  clear X_2
  have X'_3 := Lib.hid (X'_2.out.keep (keep_drew _))
  clear X'_2
  have Y_3 := Lib.hid (Y_2.out.keep (keep_drew _))
  clear Y_2
  have Y'_3 := Lib.hid (Y'_2.out.keep (keep_drew _))
  clear Y'_2
  have T_3 := Lib.hid (T_2.out.keep (keep_drew _))
  clear T_2
  have B_3 := Lib.hid (B_2.out.keep (keep_drew _))
  clear B_2
  have C_3 := Lib.hid (C_2.out.keep (keep_drew _))
  clear C_2
  have R_3 := Lib.hid (R_2.out.keep (keep_drew _))
  clear R_2
  have KW_3 := Lib.hid (KW_2.out.trans (keep_drew _))
  clear KW_2
  obtain ⟨cB_3_0, cB_3_1, cB_3_2, -, -, -, -⟩ := id B_3.out
  obtain ⟨cC_3_0, cC_3_1, cC_3_2, -, -, -, -⟩ := id C_3.out
  go_wp2
  go_region_held3 (fun w' => w'.cell? ⟨w.heap.size, 0, none⟩ = some (.bool s) ∧ w'.cell? ⟨w.heap.size, 1, none⟩ = some (.slice a n c) ∧ w'.cell? ⟨w.heap.size, 2, none⟩ = some (.slice a' n' c') ∧ w'.cell? ⟨w.heap.size + 1, 0, none⟩ = some (.bool t) ∧ w'.cell? ⟨w.heap.size + 1, 1, none⟩ = some (.slice b m g) ∧ w'.cell? ⟨w.heap.size + 1, 2, none⟩ = some (.slice b' m' g')) (first | exact ⟨yB_0, yB_1, yB_2, yC_0, yC_1, yC_2⟩ | exact ⟨zB_0, zB_1, zB_2, zC_0, zC_1, zC_2⟩ | exact ⟨cB_7_0, cB_7_1, cB_7_2, cC_7_0, cC_7_1, cC_7_2⟩ | exact ⟨cB_6_0, cB_6_1, cB_6_2, cC_6_0, cC_6_1, cC_6_2⟩ | exact ⟨cB_5_0, cB_5_1, cB_5_2, cC_5_0, cC_5_1, cC_5_2⟩ | exact ⟨cB_4_0, cB_4_1, cB_4_2, cC_4_0, cC_4_1, cC_4_2⟩ | exact ⟨cB_3_0, cB_3_1, cB_3_2, cC_3_0, cC_3_1, cC_3_2⟩ | go_keep)
    (first
      | (go_at_call 43; ((with_reducible refine Calls.mono (RD.out _ _ _ P_7.out Q_7.out T_7.out) ?_); rintro e wz ⟨u, rfl, hu, kz⟩; obtain ⟨b0, a0, n0, c0, a1, n1, c1, rfl, hcr, hkk, f0, f1, f2, g0, g1, g2, s0, s1, s2⟩ := hu.put (R_7.out.keep kz) (KW_7.out.trans kz) (by omega); have FIN := Lib.hid (show RPost q w (.returned (.agg #[.bool b0, .slice a0 n0 c0, .slice a1 n1 c1])) _ from ⟨_, rfl, hcr, hkk⟩); have YB := (B_7.out.keep kz).other3 (g := w.heap.size + 1 + 1) (by omega) (.bool b0) (.slice a0 n0 c0) (.slice a1 n1 c1); obtain ⟨yB_0, yB_1, yB_2, -, -, -, -⟩ := YB; obtain ⟨zB_0, zB_1, zB_2, -, -, -, -⟩ := B_7.out.keep kz; have YC := (C_7.out.keep kz).other3 (g := w.heap.size + 1 + 1) (by omega) (.bool b0) (.slice a0 n0 c0) (.slice a1 n1 c1); obtain ⟨yC_0, yC_1, yC_2, -, -, -, -⟩ := YC; obtain ⟨zC_0, zC_1, zC_2, -, -, -, -⟩ := C_7.out.keep kz; clear hcr hkk hu kz))
      | (go_at_call_of 44 (vA); ((with_reducible refine Calls.mono (M2.out _ _ _ U_6.out V_6.out) ?_); rintro e w7 ⟨vQ, rfl, hQ, k7⟩; have X_7 := Lib.hid (X_6.out.keep k7); have X'_7 := Lib.hid (X'_6.out.keep k7); have Y_7 := Lib.hid (Y_6.out.keep k7); have Y'_7 := Lib.hid (Y'_6.out.keep k7); have T_7 := Lib.hid (T_6.out.keep k7); have B_7 := Lib.hid (B_6.out.keep k7); have C_7 := Lib.hid (C_6.out.keep k7); have R_7 := Lib.hid (R_6.out.keep k7); have P_7 := Lib.hid (P_6.out.keep k7); have U_7 := Lib.hid (U_6.out.keep k7); have V_7 := Lib.hid (V_6.out.keep k7); have Q_7 := Lib.hid hQ; clear hQ; have KW_7 := Lib.hid (KW_6.out.trans k7); obtain ⟨cB_7_0, cB_7_1, cB_7_2, -, -, -, -⟩ := id B_7.out; obtain ⟨cC_7_0, cC_7_1, cC_7_2, -, -, -, -⟩ := id C_7.out; clear k7))
      | (go_at_call_of 45 (Value.agg #[Value.bool t, Value.slice b m g, Value.slice b' m' g']); ((with_reducible refine Calls.mono (DB.out _ Y'_5.out) ?_); rintro e w6 ⟨vB, rfl, hu2, k6⟩; have X_6 := Lib.hid (X_5.out.keep k6); have X'_6 := Lib.hid (X'_5.out.keep k6); have Y_6 := Lib.hid (Y_5.out.keep k6); have Y'_6 := Lib.hid (Y'_5.out.keep k6); have T_6 := Lib.hid (T_5.out.keep k6); have B_6 := Lib.hid (B_5.out.keep k6); have C_6 := Lib.hid (C_5.out.keep k6); have R_6 := Lib.hid (R_5.out.keep k6); have P_6 := Lib.hid (P_5.out.keep k6); have U_6 := Lib.hid (U_5.out.keep k6); have V_6 := Lib.hid hu2; clear hu2; have KW_6 := Lib.hid (KW_5.out.trans k6); obtain ⟨cB_6_0, cB_6_1, cB_6_2, -, -, -, -⟩ := id B_6.out; obtain ⟨cC_6_0, cC_6_1, cC_6_2, -, -, -, -⟩ := id C_6.out; clear k6))
      | (go_at_call_of 45 (Value.agg #[Value.bool s, Value.slice a n c, Value.slice a' n' c']); ((with_reducible refine Calls.mono (DA.out _ X'_4.out) ?_); rintro e w5 ⟨vA, rfl, hu1, k5⟩; have X_5 := Lib.hid (X_4.out.keep k5); have X'_5 := Lib.hid (X'_4.out.keep k5); have Y_5 := Lib.hid (Y_4.out.keep k5); have Y'_5 := Lib.hid (Y'_4.out.keep k5); have T_5 := Lib.hid (T_4.out.keep k5); have B_5 := Lib.hid (B_4.out.keep k5); have C_5 := Lib.hid (C_4.out.keep k5); have R_5 := Lib.hid (R_4.out.keep k5); have P_5 := Lib.hid (P_4.out.keep k5); have U_5 := Lib.hid hu1; clear hu1; have KW_5 := Lib.hid (KW_4.out.trans k5); obtain ⟨cB_5_0, cB_5_1, cB_5_2, -, -, -, -⟩ := id B_5.out; obtain ⟨cC_5_0, cC_5_1, cC_5_2, -, -, -, -⟩ := id C_5.out; clear k5))
      | (go_at_call_of 44 (Value.slice a n c); ((with_reducible refine Calls.mono (M1.out _ X_3.out Y_3.out) ?_); rintro e w4 ⟨vP, rfl, hP, k4⟩; have X_4 := Lib.hid (X_3.out.keep k4); have X'_4 := Lib.hid (X'_3.out.keep k4); have Y_4 := Lib.hid (Y_3.out.keep k4); have Y'_4 := Lib.hid (Y'_3.out.keep k4); have T_4 := Lib.hid (T_3.out.keep k4); have B_4 := Lib.hid (B_3.out.keep k4); have C_4 := Lib.hid (C_3.out.keep k4); have R_4 := Lib.hid (R_3.out.keep k4); have P_4 := Lib.hid hP; clear hP; have KW_4 := Lib.hid (KW_3.out.trans k4); obtain ⟨cB_4_0, cB_4_1, cB_4_2, -, -, -, -⟩ := id B_4.out; obtain ⟨cC_4_0, cC_4_1, cC_4_2, -, -, -, -⟩ := id C_4.out; clear k4)))
  all_goals
    go_wp2
    refine bodyPost_ret (v := .agg #[.bool b0, .slice a0 n0 c0, .slice a1 n1 c1]) (by simp [results, Tryd.results22, go_sem, s0, s1, s2]) rfl ?_
    exact FIN.out
theorem qmul_c {w : World} {v u : Value} {p q : Rat} {k : Nat} (h : Ra w v p k) (h' : Ra w u q k) (hk : k < 48) (hk1 : 1 ≤ k) (hT : Tab w) : Calls Tryd.prog 22 #[v, u] w (RPost (p * q) w) := by
  obtain ⟨s, a, n, c, a', n', c', N, D, rfl, hN, hD, rfl⟩ := h.form
  obtain ⟨t, b, m, g, b', m', g', M, E, rfl, hM, hE, rfl⟩ := h'.form
  obtain ⟨_, _, _, l, e0, hx, rfl, hl⟩ := hN.form3
  cases e0
  obtain ⟨_, _, _, l', e0, hx', rfl, hl'⟩ := hD.form3
  cases e0
  obtain ⟨_, _, _, r, e0, hy, rfl, hr⟩ := hM.form3
  cases e0
  obtain ⟨_, _, _, r', e0, hy', rfl, hr'⟩ := hE.form3
  cases e0
  by_cases h1 : n ≤ 1 ∧ n' ≤ 1
  · by_cases h2 : m ≤ 1 ∧ m' ≤ 1
    · exact mul_w hx hx' hy hy' h1.1 h1.2 h2.1 h2.2 hT
    · exact mul_l2 hx hx' hy hy' hl hl' hr hr' h1.1 h1.2 h2 hk hk1 hT
  · exact mul_l1 hx hx' hy hy' hl hl' hr hr' h1 hk hk1 hT
theorem rv_ne_zero {s : Bool} {n d : Nat} : rv s n d ≠ 0 ↔ n ≠ 0 := by
  constructor
  · rintro h rfl; exact h (rv_zero s d)
  · intro h e
    have h1 := rS_n s d h
    rw [e] at h1
    cases s <;> exact absurd h1 (by decide)
end Go.Proofs.YtnalmjbgkedcoaaDoor
