/- Carried over from another seat by program (portn.py). -/
import Derived.Test.YtnalmjbgkedcoaaDoorRR5
namespace Go.Proofs.YtnalmjbgkedcoaaDoor
open Go.RowKit
set_option linter.unusedVariables false
set_option maxHeartbeats 1600000 in
theorem rqsub_c {w : World} {v u : Value} {p q : Rat} {k : Nat} (h : Ra w v p k) (h' : Ra w u q k) (hk : k ≤ 100000) (hk1 : 1 ≤ k) : Calls Tryd.prog 11 #[v, u] w (RPost (p - q) w) := by
  obtain ⟨s, a, n, c, a', n', c', N, D, rfl, hN, hD, hp⟩ := h.form
  obtain ⟨t, b, m, g, b', m', g', M, E, rfl, hM, hE, hq⟩ := h'.form
  obtain ⟨B_0, C_0, R_0, KW_0⟩ := op2 w s a n c a' n' c' t b m g b' m' g'
  have X_0 := Lib.hid (h.keep KW_0.out)
  have Y_0 := Lib.hid (h'.keep KW_0.out)
  have NG := Lib.hid (fun w1 (h : Ra w1 (.agg #[.bool t, .slice b m g, .slice b' m' g']) q k) => rneg_c h (by omega) hk1)
  have rq := h'.rb hk1
  have AD := Lib.hid (fun w1 u (h : Ra w1 (.agg #[.bool s, .slice a n c, .slice a' n' c']) p k) (hu : Cr w1 u (-q)) => rqadd_c h (hu.ra rq.neg) hk hk1)
  rw [← Rat.sub_eq_add_neg] at AD
  obtain ⟨r, hr⟩ : ∃ r, p - q = r := ⟨_, rfl⟩
  rw [hr] at AD ⊢
  clear h h' hN hD hM hE hp hq hr rq
  go_enter Tryd.func11, Tryd.ntmps11
  obtain ⟨oB_0, oB_1, oB_2, -, -, -, -⟩ := id B_0.out
  obtain ⟨oC_0, oC_1, oC_2, -, -, -, -⟩ := id C_0.out
  obtain ⟨oR_0, oR_1, oR_2, -, -, -, -⟩ := id R_0.out
  have X_1 := Lib.hid (X_0.out.keep (keep_drew _))
  clear X_0
  have Y_1 := Lib.hid (Y_0.out.keep (keep_drew _))
  clear Y_0
  have B_1 := Lib.hid (B_0.out.keep (keep_drew _))
  clear B_0
  have C_1 := Lib.hid (C_0.out.keep (keep_drew _))
  clear C_0
  have R_1 := Lib.hid (R_0.out.keep (keep_drew _))
  clear R_0
  have KW_1 := Lib.hid (KW_0.out.trans (keep_drew _))
  clear KW_0
  obtain ⟨cB_1_0, cB_1_1, cB_1_2, -, -, -, -⟩ := id B_1.out
  obtain ⟨cC_1_0, cC_1_1, cC_1_2, -, -, -, -⟩ := id C_1.out
  go_wp2
  go_region_held3 (fun w' => w'.cell? ⟨w.heap.size, 0, none⟩ = some (.bool s) ∧ w'.cell? ⟨w.heap.size, 1, none⟩ = some (.slice a n c) ∧ w'.cell? ⟨w.heap.size, 2, none⟩ = some (.slice a' n' c') ∧ w'.cell? ⟨w.heap.size + 1, 0, none⟩ = some (.bool t) ∧ w'.cell? ⟨w.heap.size + 1, 1, none⟩ = some (.slice b m g) ∧ w'.cell? ⟨w.heap.size + 1, 2, none⟩ = some (.slice b' m' g')) (first | exact ⟨yB_0, yB_1, yB_2, yC_0, yC_1, yC_2⟩ | exact ⟨zB_0, zB_1, zB_2, zC_0, zC_1, zC_2⟩ | exact ⟨cB_2_0, cB_2_1, cB_2_2, cC_2_0, cC_2_1, cC_2_2⟩ | exact ⟨cB_1_0, cB_1_1, cB_1_2, cC_1_0, cC_1_1, cC_1_2⟩ | go_keep)
    (first
      | (go_at_call 30; ((with_reducible refine Calls.mono (AD.out _ _ X_2.out U_2.out) ?_); rintro e wz ⟨u, rfl, hu, kz⟩; obtain ⟨b0, a0, n0, c0, a1, n1, c1, rfl, hcr, hkk, f0, f1, f2, g0, g1, g2, s0, s1, s2⟩ := hu.put (R_2.out.keep kz) (KW_2.out.trans kz) (by omega); have FIN := Lib.hid (show RPost r w (.returned (.agg #[.bool b0, .slice a0 n0 c0, .slice a1 n1 c1])) _ from ⟨_, rfl, hcr, hkk⟩); have YB := (B_2.out.keep kz).other3 (g := w.heap.size + 1 + 1) (by omega) (.bool b0) (.slice a0 n0 c0) (.slice a1 n1 c1); obtain ⟨yB_0, yB_1, yB_2, -, -, -, -⟩ := YB; obtain ⟨zB_0, zB_1, zB_2, -, -, -, -⟩ := B_2.out.keep kz; have YC := (C_2.out.keep kz).other3 (g := w.heap.size + 1 + 1) (by omega) (.bool b0) (.slice a0 n0 c0) (.slice a1 n1 c1); obtain ⟨yC_0, yC_1, yC_2, -, -, -, -⟩ := YC; obtain ⟨zC_0, zC_1, zC_2, -, -, -, -⟩ := C_2.out.keep kz; clear hcr hkk hu kz))
      | (go_at_call 13; ((with_reducible refine Calls.mono (NG.out _ Y_1.out) ?_); rintro e w2 ⟨x2, rfl, hU, k2⟩; have X_2 := Lib.hid (X_1.out.keep k2); have Y_2 := Lib.hid (Y_1.out.keep k2); have B_2 := Lib.hid (B_1.out.keep k2); have C_2 := Lib.hid (C_1.out.keep k2); have R_2 := Lib.hid (R_1.out.keep k2); have U_2 := Lib.hid hU; clear hU; have KW_2 := Lib.hid (KW_1.out.trans k2); obtain ⟨cB_2_0, cB_2_1, cB_2_2, -, -, -, -⟩ := id B_2.out; obtain ⟨cC_2_0, cC_2_1, cC_2_2, -, -, -, -⟩ := id C_2.out; clear k2)))
  all_goals
    go_wp2
    refine bodyPost_ret (v := .agg #[.bool b0, .slice a0 n0 c0, .slice a1 n1 c1]) (by simp [results, Tryd.results11, go_sem, s0, s1, s2]) rfl ?_
    exact FIN.out
set_option maxHeartbeats 1600000 in
theorem rqcmp_c {w : World} {v u : Value} {p q : Rat} {k : Nat} (h : Ra w v p k) (h' : Ra w u q k) (hk : k ≤ 100000) (hk1 : 1 ≤ k) : Calls Tryd.prog 12 #[v, u] w (VPost (rC p q) w) := by
  obtain ⟨s, a, n, c, a', n', c', N, D, rfl, hN, hD, hp⟩ := h.form
  obtain ⟨t, b, m, g, b', m', g', M, E, rfl, hM, hE, hq⟩ := h'.form
  have KW_0 := Lib.hid (((Keep.refl w).alloc (.cells #[.bool s, .slice a n c, .slice a' n' c'] 25)).alloc (.cells #[.bool t, .slice b m g, .slice b' m' g'] 25))
  have B_0 := Lib.hid ((QBox.new w s a n c a' n' c').keep ((Keep.refl _).alloc (.cells #[.bool t, .slice b m g, .slice b' m' g'] 25)))
  have C_0 := Lib.hid ((QBox.new (w.alloc (.cells #[.bool s, .slice a n c, .slice a' n' c'] 25)) t b m g b' m' g').at (sz1 _ _))
  have X_0 := Lib.hid (h.keep KW_0.out)
  have Y_0 := Lib.hid (h'.keep KW_0.out)
  have rb := (h.rb hk1).sub (h'.rb hk1)
  have SU := Lib.hid (fun w1 (h : Ra w1 (.agg #[.bool s, .slice a n c, .slice a' n' c']) p k) (h' : Ra w1 (.agg #[.bool t, .slice b m g, .slice b' m' g']) q k) => rqsub_c h h' hk hk1)
  have SG := Lib.hid (fun w1 u (hu : Cr w1 u (p - q)) => rqsign_c (hu.ra rb) (by omega))
  have hS : rS (p - q) = rC p q := rC_sub p q
  rw [hS] at SG
  obtain ⟨z, hz⟩ : ∃ z, rC p q = z := ⟨_, rfl⟩
  rw [hz] at SG ⊢
  clear h h' hN hD hM hE hp hq rb hS hz
  go_enter Tryd.func12, Tryd.ntmps12
  obtain ⟨B_c0, B_c1, B_c2, -, -, -, -⟩ := id B_0.out
  obtain ⟨C_c0, C_c1, C_c2, -, -, -, -⟩ := id C_0.out
  go_wp2_with fail
  refine Calls.mono (SU.out _ X_0.out Y_0.out) ?_
  rintro e w1 ⟨v, rfl, hU, k1⟩
  clear B_c0 B_c1 B_c2 C_c0 C_c1 C_c2
  have X_1 := Lib.hid (X_0.out.keep k1)
  have Y_1 := Lib.hid (Y_0.out.keep k1)
  have B_1 := Lib.hid (B_0.out.keep k1)
  have C_1 := Lib.hid (C_0.out.keep k1)
  have U_1 := Lib.hid hU
  have KW_1 := Lib.hid (KW_0.out.trans k1)
  clear k1 X_0 Y_0 B_0 C_0 hU KW_0
  obtain ⟨_, _, _, _, _, _, rfl, -⟩ := Cr.form U_1.out
  obtain ⟨B_c0, B_c1, B_c2, -, -, -, -⟩ := id B_1.out
  obtain ⟨C_c0, C_c1, C_c2, -, -, -, -⟩ := id C_1.out
  go_wp2_with fail
  refine Calls.mono (SG.out _ _ U_1.out) ?_
  rintro e w2 ⟨rfl, k2⟩
  clear B_c0 B_c1 B_c2 C_c0 C_c1 C_c2
  have X_2 := Lib.hid (X_1.out.keep k2)
  have Y_2 := Lib.hid (Y_1.out.keep k2)
  have B_2 := Lib.hid (B_1.out.keep k2)
  have C_2 := Lib.hid (C_1.out.keep k2)
  have U_2 := Lib.hid (U_1.out.keep k2)
  have KW_2 := Lib.hid (KW_1.out.trans k2)
  clear k2 X_1 Y_1 B_1 C_1 U_1 KW_1
  go_wp2_with fail
  go_ret
  exact ⟨rfl, KW_2.out⟩
set_option maxHeartbeats 800000 in
theorem same_tt0 {w : World} {a a' b b' : Option Addr} {n c n' c' m g m' g' : Nat} {l l' r r' : List Nat} (hx : Rd w a n c l) (hx' : Rd w a' n' c' l') (hy : Rd w b m g r) (hy' : Rd w b' m' g' r') (h1 : eqB l r = false) :
    Calls Tryd.prog 40 #[.agg #[.bool true, .slice a n c, .slice a' n' c'], .agg #[.bool true, .slice b m g, .slice b' m' g']] w (BPost false w) := by
  obtain ⟨B_0, C_0, KW_0⟩ := op2n w true a n c a' n' c' true b m g b' m' g'
  have X_0 := Lib.hid (hx.below KW_0.out)
  have X'_0 := Lib.hid (hx'.below KW_0.out)
  have Y_0 := Lib.hid (hy.below KW_0.out)
  have Y'_0 := Lib.hid (hy'.below KW_0.out)
  have S1 := Lib.hid (fun w1 (h1 : Rd w1 a n c l) (h2 : Rd w1 b m g r) => same_n ⟨a, n, c, rfl, h1⟩ ⟨b, m, g, rfl, h2⟩)
  have S2 := Lib.hid (fun w1 (h1 : Rd w1 a' n' c' l') (h2 : Rd w1 b' m' g' r') => same_n ⟨a', n', c', rfl, h1⟩ ⟨b', m', g', rfl, h2⟩)
  rw [h1] at S1
  clear hx hx' hy hy' h1
  go_enter Tryd.func40, Tryd.ntmps40
  obtain ⟨B_c0, B_c1, B_c2, -, -, -, -⟩ := id B_0.out
  obtain ⟨C_c0, C_c1, C_c2, -, -, -, -⟩ := id C_0.out
  go_wp2_with fail
  refine Calls.mono (S1.out _ X_0.out Y_0.out) ?_
  rintro e w1 ⟨rfl, k1⟩
  clear B_c0 B_c1 B_c2 C_c0 C_c1 C_c2
  have X_1 := Lib.hid (X_0.out.keep k1)
  have X'_1 := Lib.hid (X'_0.out.keep k1)
  have Y_1 := Lib.hid (Y_0.out.keep k1)
  have Y'_1 := Lib.hid (Y'_0.out.keep k1)
  have B_1 := Lib.hid (B_0.out.keep k1)
  have C_1 := Lib.hid (C_0.out.keep k1)
  have KW_1 := Lib.hid (KW_0.out.trans k1)
  clear k1 X_0 X'_0 Y_0 Y'_0 B_0 C_0 KW_0
  obtain ⟨B_c0, B_c1, B_c2, -, -, -, -⟩ := id B_1.out
  obtain ⟨C_c0, C_c1, C_c2, -, -, -, -⟩ := id C_1.out
  go_wp2_with fail
  go_ret
  exact ⟨rfl, KW_1.out⟩
set_option maxHeartbeats 800000 in
theorem same_tt1 {w : World} {a a' b b' : Option Addr} {n c n' c' m g m' g' : Nat} {l l' r r' : List Nat} (hx : Rd w a n c l) (hx' : Rd w a' n' c' l') (hy : Rd w b m g r) (hy' : Rd w b' m' g' r') (h1 : eqB l r = true) :
    Calls Tryd.prog 40 #[.agg #[.bool true, .slice a n c, .slice a' n' c'], .agg #[.bool true, .slice b m g, .slice b' m' g']] w (BPost (eqB l' r') w) := by
  obtain ⟨B_0, C_0, KW_0⟩ := op2n w true a n c a' n' c' true b m g b' m' g'
  have X_0 := Lib.hid (hx.below KW_0.out)
  have X'_0 := Lib.hid (hx'.below KW_0.out)
  have Y_0 := Lib.hid (hy.below KW_0.out)
  have Y'_0 := Lib.hid (hy'.below KW_0.out)
  have S1 := Lib.hid (fun w1 (h1 : Rd w1 a n c l) (h2 : Rd w1 b m g r) => same_n ⟨a, n, c, rfl, h1⟩ ⟨b, m, g, rfl, h2⟩)
  have S2 := Lib.hid (fun w1 (h1 : Rd w1 a' n' c' l') (h2 : Rd w1 b' m' g' r') => same_n ⟨a', n', c', rfl, h1⟩ ⟨b', m', g', rfl, h2⟩)
  rw [h1] at S1
  obtain ⟨z, hz⟩ : ∃ z, eqB l' r' = z := ⟨_, rfl⟩
  rw [hz] at S2 ⊢
  clear hz
  clear hx hx' hy hy' h1
  go_enter Tryd.func40, Tryd.ntmps40
  obtain ⟨B_c0, B_c1, B_c2, -, -, -, -⟩ := id B_0.out
  obtain ⟨C_c0, C_c1, C_c2, -, -, -, -⟩ := id C_0.out
  go_wp2_with fail
  refine Calls.mono (S1.out _ X_0.out Y_0.out) ?_
  rintro e w1 ⟨rfl, k1⟩
  clear B_c0 B_c1 B_c2 C_c0 C_c1 C_c2
  have X_1 := Lib.hid (X_0.out.keep k1)
  have X'_1 := Lib.hid (X'_0.out.keep k1)
  have Y_1 := Lib.hid (Y_0.out.keep k1)
  have Y'_1 := Lib.hid (Y'_0.out.keep k1)
  have B_1 := Lib.hid (B_0.out.keep k1)
  have C_1 := Lib.hid (C_0.out.keep k1)
  have KW_1 := Lib.hid (KW_0.out.trans k1)
  clear k1 X_0 X'_0 Y_0 Y'_0 B_0 C_0 KW_0
  obtain ⟨B_c0, B_c1, B_c2, -, -, -, -⟩ := id B_1.out
  obtain ⟨C_c0, C_c1, C_c2, -, -, -, -⟩ := id C_1.out
  go_wp2_with fail
  refine Calls.mono (S2.out _ X'_1.out Y'_1.out) ?_
  rintro e w2 ⟨rfl, k2⟩
  clear B_c0 B_c1 B_c2 C_c0 C_c1 C_c2
  have X_2 := Lib.hid (X_1.out.keep k2)
  have X'_2 := Lib.hid (X'_1.out.keep k2)
  have Y_2 := Lib.hid (Y_1.out.keep k2)
  have Y'_2 := Lib.hid (Y'_1.out.keep k2)
  have B_2 := Lib.hid (B_1.out.keep k2)
  have C_2 := Lib.hid (C_1.out.keep k2)
  have KW_2 := Lib.hid (KW_1.out.trans k2)
  clear k2 X_1 X'_1 Y_1 Y'_1 B_1 C_1 KW_1
  obtain ⟨B_c0, B_c1, B_c2, -, -, -, -⟩ := id B_2.out
  obtain ⟨C_c0, C_c1, C_c2, -, -, -, -⟩ := id C_2.out
  go_wp2_with fail
  go_ret
  exact ⟨rfl, KW_2.out⟩
set_option maxHeartbeats 800000 in
theorem same_ff0 {w : World} {a a' b b' : Option Addr} {n c n' c' m g m' g' : Nat} {l l' r r' : List Nat} (hx : Rd w a n c l) (hx' : Rd w a' n' c' l') (hy : Rd w b m g r) (hy' : Rd w b' m' g' r') (h1 : eqB l r = false) :
    Calls Tryd.prog 40 #[.agg #[.bool false, .slice a n c, .slice a' n' c'], .agg #[.bool false, .slice b m g, .slice b' m' g']] w (BPost false w) := by
  obtain ⟨B_0, C_0, KW_0⟩ := op2n w false a n c a' n' c' false b m g b' m' g'
  have X_0 := Lib.hid (hx.below KW_0.out)
  have X'_0 := Lib.hid (hx'.below KW_0.out)
  have Y_0 := Lib.hid (hy.below KW_0.out)
  have Y'_0 := Lib.hid (hy'.below KW_0.out)
  have S1 := Lib.hid (fun w1 (h1 : Rd w1 a n c l) (h2 : Rd w1 b m g r) => same_n ⟨a, n, c, rfl, h1⟩ ⟨b, m, g, rfl, h2⟩)
  have S2 := Lib.hid (fun w1 (h1 : Rd w1 a' n' c' l') (h2 : Rd w1 b' m' g' r') => same_n ⟨a', n', c', rfl, h1⟩ ⟨b', m', g', rfl, h2⟩)
  rw [h1] at S1
  clear hx hx' hy hy' h1
  go_enter Tryd.func40, Tryd.ntmps40
  obtain ⟨B_c0, B_c1, B_c2, -, -, -, -⟩ := id B_0.out
  obtain ⟨C_c0, C_c1, C_c2, -, -, -, -⟩ := id C_0.out
  go_wp2_with fail
  refine Calls.mono (S1.out _ X_0.out Y_0.out) ?_
  rintro e w1 ⟨rfl, k1⟩
  clear B_c0 B_c1 B_c2 C_c0 C_c1 C_c2
  have X_1 := Lib.hid (X_0.out.keep k1)
  have X'_1 := Lib.hid (X'_0.out.keep k1)
  have Y_1 := Lib.hid (Y_0.out.keep k1)
  have Y'_1 := Lib.hid (Y'_0.out.keep k1)
  have B_1 := Lib.hid (B_0.out.keep k1)
  have C_1 := Lib.hid (C_0.out.keep k1)
  have KW_1 := Lib.hid (KW_0.out.trans k1)
  clear k1 X_0 X'_0 Y_0 Y'_0 B_0 C_0 KW_0
  obtain ⟨B_c0, B_c1, B_c2, -, -, -, -⟩ := id B_1.out
  obtain ⟨C_c0, C_c1, C_c2, -, -, -, -⟩ := id C_1.out
  go_wp2_with fail
  go_ret
  exact ⟨rfl, KW_1.out⟩
set_option maxHeartbeats 800000 in
theorem same_ff1 {w : World} {a a' b b' : Option Addr} {n c n' c' m g m' g' : Nat} {l l' r r' : List Nat} (hx : Rd w a n c l) (hx' : Rd w a' n' c' l') (hy : Rd w b m g r) (hy' : Rd w b' m' g' r') (h1 : eqB l r = true) :
    Calls Tryd.prog 40 #[.agg #[.bool false, .slice a n c, .slice a' n' c'], .agg #[.bool false, .slice b m g, .slice b' m' g']] w (BPost (eqB l' r') w) := by
  obtain ⟨B_0, C_0, KW_0⟩ := op2n w false a n c a' n' c' false b m g b' m' g'
  have X_0 := Lib.hid (hx.below KW_0.out)
  have X'_0 := Lib.hid (hx'.below KW_0.out)
  have Y_0 := Lib.hid (hy.below KW_0.out)
  have Y'_0 := Lib.hid (hy'.below KW_0.out)
  have S1 := Lib.hid (fun w1 (h1 : Rd w1 a n c l) (h2 : Rd w1 b m g r) => same_n ⟨a, n, c, rfl, h1⟩ ⟨b, m, g, rfl, h2⟩)
  have S2 := Lib.hid (fun w1 (h1 : Rd w1 a' n' c' l') (h2 : Rd w1 b' m' g' r') => same_n ⟨a', n', c', rfl, h1⟩ ⟨b', m', g', rfl, h2⟩)
  rw [h1] at S1
  obtain ⟨z, hz⟩ : ∃ z, eqB l' r' = z := ⟨_, rfl⟩
  rw [hz] at S2 ⊢
  clear hz
  clear hx hx' hy hy' h1
  go_enter Tryd.func40, Tryd.ntmps40
  obtain ⟨B_c0, B_c1, B_c2, -, -, -, -⟩ := id B_0.out
  obtain ⟨C_c0, C_c1, C_c2, -, -, -, -⟩ := id C_0.out
  go_wp2_with fail
  refine Calls.mono (S1.out _ X_0.out Y_0.out) ?_
  rintro e w1 ⟨rfl, k1⟩
  clear B_c0 B_c1 B_c2 C_c0 C_c1 C_c2
  have X_1 := Lib.hid (X_0.out.keep k1)
  have X'_1 := Lib.hid (X'_0.out.keep k1)
  have Y_1 := Lib.hid (Y_0.out.keep k1)
  have Y'_1 := Lib.hid (Y'_0.out.keep k1)
  have B_1 := Lib.hid (B_0.out.keep k1)
  have C_1 := Lib.hid (C_0.out.keep k1)
  have KW_1 := Lib.hid (KW_0.out.trans k1)
  clear k1 X_0 X'_0 Y_0 Y'_0 B_0 C_0 KW_0
  obtain ⟨B_c0, B_c1, B_c2, -, -, -, -⟩ := id B_1.out
  obtain ⟨C_c0, C_c1, C_c2, -, -, -, -⟩ := id C_1.out
  go_wp2_with fail
  refine Calls.mono (S2.out _ X'_1.out Y'_1.out) ?_
  rintro e w2 ⟨rfl, k2⟩
  clear B_c0 B_c1 B_c2 C_c0 C_c1 C_c2
  have X_2 := Lib.hid (X_1.out.keep k2)
  have X'_2 := Lib.hid (X'_1.out.keep k2)
  have Y_2 := Lib.hid (Y_1.out.keep k2)
  have Y'_2 := Lib.hid (Y'_1.out.keep k2)
  have B_2 := Lib.hid (B_1.out.keep k2)
  have C_2 := Lib.hid (C_1.out.keep k2)
  have KW_2 := Lib.hid (KW_1.out.trans k2)
  clear k2 X_1 X'_1 Y_1 Y'_1 B_1 C_1 KW_1
  obtain ⟨B_c0, B_c1, B_c2, -, -, -, -⟩ := id B_2.out
  obtain ⟨C_c0, C_c1, C_c2, -, -, -, -⟩ := id C_2.out
  go_wp2_with fail
  go_ret
  exact ⟨rfl, KW_2.out⟩
set_option maxHeartbeats 800000 in
theorem same_tf {w : World} {a a' b b' : Option Addr} {n c n' c' m g m' g' : Nat} {l l' r r' : List Nat} (hx : Rd w a n c l) (hx' : Rd w a' n' c' l') (hy : Rd w b m g r) (hy' : Rd w b' m' g' r')  :
    Calls Tryd.prog 40 #[.agg #[.bool true, .slice a n c, .slice a' n' c'], .agg #[.bool false, .slice b m g, .slice b' m' g']] w (BPost false w) := by
  obtain ⟨B_0, C_0, KW_0⟩ := op2n w true a n c a' n' c' false b m g b' m' g'
  have X_0 := Lib.hid (hx.below KW_0.out)
  have X'_0 := Lib.hid (hx'.below KW_0.out)
  have Y_0 := Lib.hid (hy.below KW_0.out)
  have Y'_0 := Lib.hid (hy'.below KW_0.out)
  have S1 := Lib.hid (fun w1 (h1 : Rd w1 a n c l) (h2 : Rd w1 b m g r) => same_n ⟨a, n, c, rfl, h1⟩ ⟨b, m, g, rfl, h2⟩)
  have S2 := Lib.hid (fun w1 (h1 : Rd w1 a' n' c' l') (h2 : Rd w1 b' m' g' r') => same_n ⟨a', n', c', rfl, h1⟩ ⟨b', m', g', rfl, h2⟩)
  clear hx hx' hy hy' 
  go_enter Tryd.func40, Tryd.ntmps40
  obtain ⟨B_c0, B_c1, B_c2, -, -, -, -⟩ := id B_0.out
  obtain ⟨C_c0, C_c1, C_c2, -, -, -, -⟩ := id C_0.out
  go_wp2_with fail
  go_ret
  exact ⟨rfl, KW_0.out⟩
set_option maxHeartbeats 800000 in
theorem same_ft {w : World} {a a' b b' : Option Addr} {n c n' c' m g m' g' : Nat} {l l' r r' : List Nat} (hx : Rd w a n c l) (hx' : Rd w a' n' c' l') (hy : Rd w b m g r) (hy' : Rd w b' m' g' r')  :
    Calls Tryd.prog 40 #[.agg #[.bool false, .slice a n c, .slice a' n' c'], .agg #[.bool true, .slice b m g, .slice b' m' g']] w (BPost false w) := by
  obtain ⟨B_0, C_0, KW_0⟩ := op2n w false a n c a' n' c' true b m g b' m' g'
  have X_0 := Lib.hid (hx.below KW_0.out)
  have X'_0 := Lib.hid (hx'.below KW_0.out)
  have Y_0 := Lib.hid (hy.below KW_0.out)
  have Y'_0 := Lib.hid (hy'.below KW_0.out)
  have S1 := Lib.hid (fun w1 (h1 : Rd w1 a n c l) (h2 : Rd w1 b m g r) => same_n ⟨a, n, c, rfl, h1⟩ ⟨b, m, g, rfl, h2⟩)
  have S2 := Lib.hid (fun w1 (h1 : Rd w1 a' n' c' l') (h2 : Rd w1 b' m' g' r') => same_n ⟨a', n', c', rfl, h1⟩ ⟨b', m', g', rfl, h2⟩)
  clear hx hx' hy hy' 
  go_enter Tryd.func40, Tryd.ntmps40
  obtain ⟨B_c0, B_c1, B_c2, -, -, -, -⟩ := id B_0.out
  obtain ⟨C_c0, C_c1, C_c2, -, -, -, -⟩ := id C_0.out
  go_wp2_with fail
  go_ret
  exact ⟨rfl, KW_0.out⟩
theorem qsame_c {w : World} {s t : Bool} {a a' b b' : Option Addr} {n c n' c' m g m' g' : Nat} {l l' r r' : List Nat} (hx : Rd w a n c l) (hx' : Rd w a' n' c' l') (hy : Rd w b m g r) (hy' : Rd w b' m' g' r') :
    Calls Tryd.prog 40 #[.agg #[.bool s, .slice a n c, .slice a' n' c'], .agg #[.bool t, .slice b m g, .slice b' m' g']] w (BPost ((s == t) && eqB l r && eqB l' r') w) := by
  obtain ⟨e, he⟩ : ∃ e, eqB l r = e := ⟨_, rfl⟩
  rw [he]
  cases s <;> cases t <;> cases e <;> simp only [beq_self_eq_true, Bool.true_and, Bool.false_and, Bool.and_false, Bool.and_true, show (true == false) = false from rfl, show (false == true) = false from rfl]
  · exact same_ff0 hx hx' hy hy' he
  · exact same_ff1 hx hx' hy hy' he
  · exact same_ft hx hx' hy hy'
  · exact same_ft hx hx' hy hy'
  · exact same_tf hx hx' hy hy'
  · exact same_tf hx hx' hy hy'
  · exact same_tt0 hx hx' hy hy' he
  · exact same_tt1 hx hx' hy hy' he
theorem eqB_self (l : List Nat) : eqB l l = true := by unfold eqB; exact beq_self_eq_true l
theorem qsame_t {w : World} {v u : Value} {q : Rat} (h : Cr w v q) (h' : Cr w u q) : Calls Tryd.prog 40 #[v, u] w (BPost true w) := by
  obtain ⟨a, n, c, a', n', c', rfl, _, _, h1, h2⟩ := h.form
  obtain ⟨b, m, g, b', m', g', rfl, _, _, h3, h4⟩ := h'.form
  have H := qsame_c (s := decide (q.num < 0)) (t := decide (q.num < 0)) h1 h2 h3 h4
  rw [beq_self_eq_true, eqB_self, eqB_self] at H
  exact H
/-- a fraction is in lowest terms -/
def okQ (s : Bool) (l l' : List Nat) : Bool := (s == decide ((rv s (nv l) (nv l')).num < 0)) && eqB l (dig (rv s (nv l) (nv l')).num.natAbs) && eqB l' (dig (wd (rv s (nv l) (nv l'))))
set_option maxHeartbeats 800000 in
theorem rqvalid_c {w : World} {s : Bool} {a a' : Option Addr} {n c n' c' k : Nat} {l l' : List Nat} (hx : Rd w a n c l) (hx' : Rd w a' n' c' l') (hl : l.length ≤ k) (hl' : l'.length ≤ k) (hk : k ≤ 500000) (hk1 : 1 ≤ k) :
    Calls Tryd.prog 19 #[.agg #[.bool s, .slice a n c, .slice a' n' c']] w (BPost (okQ s l l') w) := by
  have KW_0 := Lib.hid ((Keep.refl w).alloc (.cells #[.bool s, .slice a n c, .slice a' n' c'] 25))
  have B_0 := Lib.hid (QBox.new w s a n c a' n' c')
  have X_0 := Lib.hid (hx.below KW_0.out)
  have X'_0 := Lib.hid (hx'.below KW_0.out)
  have CN := Lib.hid (fun w1 (h : Rd w1 a n c l) (h' : Rd w1 a' n' c' l') => rcanon_c (q0 := rv s (nv l) (nv l')) (v := .agg #[.bool s, .slice a n c, .slice a' n' c']) ⟨_, _, _, _, _, rfl, h.toNm rfl hl, h'.toNm rfl hl', rfl⟩ hk hk1)
  have SM := Lib.hid (fun w1 u (h : Rd w1 a n c l) (h' : Rd w1 a' n' c' l') (hu : Cr w1 u (rv s (nv l) (nv l'))) => show Calls Tryd.prog 40 #[.agg #[.bool s, .slice a n c, .slice a' n' c'], u] w1 (BPost (okQ s l l') w1) from by
    obtain ⟨b, m, g, b', m', g', rfl, _, _, h3, h4⟩ := hu.form
    exact qsame_c h h' h3 h4)
  obtain ⟨z, hz⟩ : ∃ z, okQ s l l' = z := ⟨_, rfl⟩
  obtain ⟨q, hq⟩ : ∃ q, rv s (nv l) (nv l') = q := ⟨_, rfl⟩
  rw [hq] at CN SM
  rw [hz] at SM ⊢
  clear hx hx' hl hl' hz hq
  go_enter Tryd.func19, Tryd.ntmps19
  obtain ⟨oB_0, oB_1, oB_2, -, -, -, -⟩ := id B_0.out
  have X_1 := Lib.hid (X_0.out.keep (keep_drew _))
  clear X_0
  have X'_1 := Lib.hid (X'_0.out.keep (keep_drew _))
  clear X'_0
  have B_1 := Lib.hid (B_0.out.keep (keep_drew _))
  clear B_0
  have KW_1 := Lib.hid (KW_0.out.trans (keep_drew _))
  clear KW_0
  obtain ⟨cB_1_0, cB_1_1, cB_1_2, -, -, -, -⟩ := id B_1.out
  go_wp2
  go_region_held3 (fun w' => w'.cell? ⟨w.heap.size, 0, none⟩ = some (.bool s) ∧ w'.cell? ⟨w.heap.size, 1, none⟩ = some (.slice a n c) ∧ w'.cell? ⟨w.heap.size, 2, none⟩ = some (.slice a' n' c')) (first | exact ⟨cB_3_0, cB_3_1, cB_3_2⟩ | exact ⟨cB_2_0, cB_2_1, cB_2_2⟩ | exact ⟨cB_1_0, cB_1_1, cB_1_2⟩ | go_keep)
    (first
      | (go_at_call 40; ((with_reducible refine Calls.mono (SM.out _ _ X_2.out X'_2.out U_2.out) ?_); rintro e w3 ⟨rfl, k3⟩; have X_3 := Lib.hid (X_2.out.keep k3); have X'_3 := Lib.hid (X'_2.out.keep k3); have B_3 := Lib.hid (B_2.out.keep k3); have U_3 := Lib.hid (U_2.out.keep k3); have KW_3 := Lib.hid (KW_2.out.trans k3); obtain ⟨cB_3_0, cB_3_1, cB_3_2, -, -, -, -⟩ := id B_3.out; clear k3))
      | (go_at_call 32; ((with_reducible refine Calls.mono (CN.out _ X_1.out X'_1.out) ?_); rintro e w2 ⟨x2, rfl, hU, k2⟩; have X_2 := Lib.hid (X_1.out.keep k2); have X'_2 := Lib.hid (X'_1.out.keep k2); have B_2 := Lib.hid (B_1.out.keep k2); have U_2 := Lib.hid hU; clear hU; have KW_2 := Lib.hid (KW_1.out.trans k2); obtain ⟨cB_2_0, cB_2_1, cB_2_2, -, -, -, -⟩ := id B_2.out; clear k2)))
  clear cB_3_0 cB_3_1 cB_3_2 cB_2_0 cB_2_1 cB_2_2 cB_1_0 cB_1_1 cB_1_2 oB_0 oB_1 oB_2
  all_goals
    go_wp2_with fail
    go_ret
    exact ⟨rfl, KW_3.out⟩
end Go.Proofs.YtnalmjbgkedcoaaDoor
