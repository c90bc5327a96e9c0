/- Carried over from another seat by program (portn.py). -/
import Derived.Test.YtnalmjbgkedcoaaDoorR8
import Derived.Deep.DeepCutAuto
namespace Go.Proofs.YtnalmjbgkedcoaaDoor
open Go.RowKit
set_option linter.unusedVariables false
theorem RBox.other3 {g g' : Nat} {u0 u1 : Value} {w : World} (h : RBox g' u0 u1 w) (hne : g ≠ g') (u v x : Value) : RBox g' u0 u1 (((w.setCell ⟨g, 0, none⟩ u).setCell ⟨g, 1, none⟩ v).setCell ⟨g, 2, none⟩ x) := by
  have e : ∀ j, (((w.setCell ⟨g, 0, none⟩ u).setCell ⟨g, 1, none⟩ v).setCell ⟨g, 2, none⟩ x).cell? ⟨g', j, none⟩ = w.cell? ⟨g', j, none⟩ := fun j => by
    rw [World.cell?_setCell_other _ _ _ _ (by simp), World.cell?_setCell_other _ _ _ _ (by simp), World.cell?_setCell_other _ _ _ _ (by simp)]
  have f : ∀ j, (((w.setCell ⟨g, 0, none⟩ u).setCell ⟨g, 1, none⟩ v).setCell ⟨g, 2, none⟩ x).frozen? ⟨g', j, none⟩ = w.frozen? ⟨g', j, none⟩ := fun j => by simp
  exact ⟨(e 0).trans h.c0, (e 1).trans h.c1, (f 0).trans h.f0, (f 1).trans h.f1, fun i y => by rw [e i]; exact h.no i y⟩
theorem cmpv_eq0 (a b : Nat) : (cmpv a b == 0) = decide (a = b) := by
  by_cases h : a = b
  · rw [cmpv_eq h]; simp [h]
  · rcases Nat.lt_or_gt_of_ne h with g | g
    · rw [cmpv_lt g]; simp [h]
    · rw [cmpv_gt g]; simp [h]
theorem dn_lt' {d k : Nat} (h : d < BB ^ k) (hk : 1 ≤ k) : dn d < BB ^ k := by
  have := one_lt_BB hk
  unfold dn; split <;> omega
theorem iv_add_abs (s t : Bool) {n m k : Nat} (h : n < BB ^ k) (h' : m < BB ^ k) : (iv s n + iv t m).natAbs < BB ^ (k + 1) := by
  refine Nat.lt_of_le_of_lt (Int.natAbs_add_le _ _) ?_
  rw [iv_natAbs, iv_natAbs]
  exact lt_add_pow h h'
/-- a pointer to a new block that holds an integer -/
def PBox (w0 : World) (lo : Nat) (s : Bool) (n : Nat) (v : Value) (wx : World) : Prop := ∃ g a len cap, v = .pointer (some ⟨g, 0, none⟩) ∧ lo ≤ g ∧ RBox g (.bool s) (.slice a len cap) wx ∧ Cn wx (.slice a len cap) n ∧ Keep w0 wx
theorem QBox.other2 {g g' : Nat} {u0 u1 u2 : Value} {w : World} (h : QBox g' u0 u1 u2 w) (hne : g ≠ g') (u v : Value) : QBox g' u0 u1 u2 ((w.setCell ⟨g, 0, none⟩ u).setCell ⟨g, 1, none⟩ v) := by
  have e : ∀ j, ((w.setCell ⟨g, 0, none⟩ u).setCell ⟨g, 1, none⟩ v).cell? ⟨g', j, none⟩ = w.cell? ⟨g', j, none⟩ := fun j => by
    rw [World.cell?_setCell_other _ _ _ _ (by simp), World.cell?_setCell_other _ _ _ _ (by simp)]
  have f : ∀ j, ((w.setCell ⟨g, 0, none⟩ u).setCell ⟨g, 1, none⟩ v).frozen? ⟨g', j, none⟩ = w.frozen? ⟨g', j, none⟩ := fun j => by simp
  exact ⟨(e 0).trans h.c0, (e 1).trans h.c1, (e 2).trans h.c2, (f 0).trans h.f0, (f 1).trans h.f1, (f 2).trans h.f2, fun i y => by rw [e i]; exact h.no i y⟩
theorem Ci.cn {w : World} {a : Option Addr} {n c : Nat} {b : Bool} {z : Int} (h : Ci w (.agg #[.bool b, .slice a n c]) z) : Cn w (.slice a n c) z.natAbs := by
  obtain ⟨m, e, h⟩ := h
  cases e
  exact h
set_option maxHeartbeats 1600000 in
theorem add_same {w : World} {s t : Bool} {a a' b b' : Option Addr} {n c n' c' m g m' g' N D M E k : Nat} (hN : Nm w (.slice a n c) N k) (hD : Nm w (.slice a' n' c') D k) (hM : Nm w (.slice b m g) M k) (hE : Nm w (.slice b' m' g') E k) (hk : k < 48) (hk1 : 1 ≤ k) (hT : Tab w) (hde : dn D = dn E) :
    Calls Tryd.prog 26 #[.agg #[.bool s, .slice a n c, .slice a' n' c'], .agg #[.bool t, .slice b m g, .slice b' m' g']] w (RPost (rv s N D + rv t M E) w) := by
  obtain ⟨B_0, C_0, R_0, KW_0⟩ := op2 w s a n c a' n' c' t b m g b' m' g'
  have X_0 := Lib.hid (hN.keep KW_0.out)
  have X'_0 := Lib.hid (hD.keep KW_0.out)
  have Y_0 := Lib.hid (hM.keep KW_0.out)
  have Y'_0 := Lib.hid (hE.keep KW_0.out)
  have T_0 := Lib.hid (hT.keep KW_0.out)
  have AW := Lib.hid (fun w1 (h1 : Nm w1 (.slice a n c) N k) (h2 : Nm w1 (.slice a' n' c') D k) (h3 : Nm w1 (.slice b m g) M k) (h4 : Nm w1 (.slice b' m' g') E k) (h5 : Tab w1) => addWords_c (s := s) (t := t) h1 h2 h3 h4 h5)
  have DA := Lib.hid (fun w1 (h : Nm w1 (.slice a' n' c') D k) => den_c (s := s) (a := a) (n := n) (c := c) h (by omega) hk1)
  have DB := Lib.hid (fun w1 (h : Nm w1 (.slice b' m' g') E k) => den_c (s := t) (a := b) (n := m) (c := g) h (by omega) hk1)
  have CM := Lib.hid (fun w1 u v (h : Nm w1 u (dn D) k) (h' : Nm w1 v (dn E) k) => cmp_n h h')
  obtain ⟨z0, hz0⟩ : ∃ z, cmpv (dn D) (dn E) = z := ⟨_, rfl⟩
  have hz1 : (z0 == 0) = true := by
    rw [← hz0, cmpv_eq0]; simp [hde]
  rw [hz0] at CM
  have IA := Lib.hid (fun w1 (h : Nm w1 (.slice a n c) N k) (h' : Nm w1 (.slice b m g) M k) => iadd_c (s := s) (s' := t) ⟨_, rfl, h⟩ ⟨_, rfl, h'⟩ (by omega) (by omega))
  have hzl := iv_add_abs s t hN.lt hM.lt
  have hq0 := rv_add_same s t N M D E hde
  rw [mkRat_rv _ _ (dn_ne D)] at hq0
  obtain ⟨q, hq⟩ : ∃ q, rv s N D + rv t M E = q := ⟨_, rfl⟩
  rw [hq] at AW hq0 ⊢
  obtain ⟨z, hz⟩ : ∃ z, iv s N + iv t M = z := ⟨_, rfl⟩
  rw [hz] at IA hzl hq0
  have RD := Lib.hid (fun w1 x u (hx : Cn w1 x z.natAbs) (hu : Nm w1 u (dn D) k) (hT1 : Tab w1) => reduce_c (decide (z < 0)) (hx.nm hzl) (hu.up (Nat.le_succ k)) (dn_ne D) (by omega) hT1)
  rw [← hq0] at RD
  clear hq hq0 hz hzl
  clear hN hD hM hE hT hz0
  go_enter Tryd.func26, Tryd.ntmps26
  obtain ⟨B_c0, B_c1, B_c2, -, -, -, -⟩ := id B_0.out
  obtain ⟨C_c0, C_c1, C_c2, -, -, -, -⟩ := id C_0.out
  obtain ⟨R_c0, R_c1, R_c2, -, -, -, -⟩ := id R_0.out
  go_wp2_with fail
  refine Calls.mono (AW.out _ X_0.out X'_0.out Y_0.out Y'_0.out T_0.out) ?_
  rintro e w1 hor
  rcases hor with ⟨u, rfl, hu, k1⟩ | ⟨rfl, k1⟩
  · obtain ⟨ra, rn, rc, ra', rn', rc', rfl, _, _, hr, hr'⟩ := hu.form
    obtain ⟨bq, hb⟩ : ∃ b, decide (q.num < 0) = b := ⟨_, rfl⟩
    rw [hb]
    obtain ⟨F, hkk, s0, s1, s2⟩ := put_of (w0 := w) hb (hr.alloc (.cells #[.bool bq, .slice ra rn rc, .slice ra' rn' rc'] 25)) (hr'.alloc (.cells #[.bool bq, .slice ra rn rc, .slice ra' rn' rc'] 25)) ((R_0.out.keep k1).keep ((Keep.refl _).alloc (.cells #[.bool bq, .slice ra rn rc, .slice ra' rn' rc'] 25))) ((KW_0.out.trans k1).alloc (.cells #[.bool bq, .slice ra rn rc, .slice ra' rn' rc'] 25)) (by omega)
    have FIN := Lib.hid F
    obtain ⟨y0, y1, y2, f0, f1, f2, _⟩ := (R_0.out.keep k1).keep ((Keep.refl _).alloc (.cells #[.bool bq, .slice ra rn rc, .slice ra' rn' rc'] 25))
    clear F hkk hr hr' hb k1 hu B_c0 B_c1 B_c2 C_c0 C_c1 C_c2 R_c0 R_c1 R_c2
    go_wp2
    refine bodyPost_ret (v := .agg #[.bool bq, .slice ra rn rc, .slice ra' rn' rc']) (by simp [results, Tryd.results26, go_sem, s0, s1, s2]) rfl ?_
    exact FIN.out
  clear AW
  clear B_c0 B_c1 B_c2 C_c0 C_c1 C_c2 R_c0 R_c1 R_c2
  have X_1 := Lib.hid (X_0.out.keep k1)
  have X'_1 := Lib.hid (X'_0.out.keep k1)
  have Y_1 := Lib.hid (Y_0.out.keep k1)
  have Y'_1 := Lib.hid (Y'_0.out.keep k1)
  have T_1 := Lib.hid (T_0.out.keep k1)
  have B_1 := Lib.hid (B_0.out.keep k1)
  have C_1 := Lib.hid (C_0.out.keep k1)
  have R_1 := Lib.hid (R_0.out.keep k1)
  have KW_1 := Lib.hid (KW_0.out.trans k1)
  clear k1 X_0 X'_0 Y_0 Y'_0 T_0 B_0 C_0 R_0 KW_0
  have X_2 := Lib.hid (X_1.out.keep ((Keep.refl _).alloc (.cells #[.bool false, .slice none 0 0, .slice none 0 0] 25)))
  have X'_2 := Lib.hid (X'_1.out.keep ((Keep.refl _).alloc (.cells #[.bool false, .slice none 0 0, .slice none 0 0] 25)))
  have Y_2 := Lib.hid (Y_1.out.keep ((Keep.refl _).alloc (.cells #[.bool false, .slice none 0 0, .slice none 0 0] 25)))
  have Y'_2 := Lib.hid (Y'_1.out.keep ((Keep.refl _).alloc (.cells #[.bool false, .slice none 0 0, .slice none 0 0] 25)))
  have T_2 := Lib.hid (T_1.out.keep ((Keep.refl _).alloc (.cells #[.bool false, .slice none 0 0, .slice none 0 0] 25)))
  have B_2 := Lib.hid (B_1.out.keep ((Keep.refl _).alloc (.cells #[.bool false, .slice none 0 0, .slice none 0 0] 25)))
  have C_2 := Lib.hid (C_1.out.keep ((Keep.refl _).alloc (.cells #[.bool false, .slice none 0 0, .slice none 0 0] 25)))
  have R_2 := Lib.hid (R_1.out.keep ((Keep.refl _).alloc (.cells #[.bool false, .slice none 0 0, .slice none 0 0] 25)))
  have KW_2 := Lib.hid (KW_1.out.trans ((Keep.refl _).alloc (.cells #[.bool false, .slice none 0 0, .slice none 0 0] 25)))
  clear X_1 X'_1 Y_1 Y'_1 T_1 B_1 C_1 R_1 KW_1
  have X_3 := Lib.hid (X_2.out.keep (keep_drew _))
  clear X_2
  have X'_3 := Lib.hid (X'_2.out.keep (keep_drew _))
  clear X'_2
  have Y_3 := Lib.hid (Y_2.out.keep (keep_drew _))
  clear Y_2
  have Y'_3 := Lib.hid (Y'_2.out.keep (keep_drew _))
  clear Y'_2
  have T_3 := Lib.hid (T_2.out.keep (keep_drew _))
  clear T_2
  have B_3 := Lib.hid (B_2.out.keep (keep_drew _))
  clear B_2
  have C_3 := Lib.hid (C_2.out.keep (keep_drew _))
  clear C_2
  have R_3 := Lib.hid (R_2.out.keep (keep_drew _))
  clear R_2
  have KW_3 := Lib.hid (KW_2.out.trans (keep_drew _))
  clear KW_2
  obtain ⟨cB_3_0, cB_3_1, cB_3_2, -, -, -, -⟩ := id B_3.out
  obtain ⟨cC_3_0, cC_3_1, cC_3_2, -, -, -, -⟩ := id C_3.out
  go_wp2
  go_region_held3 (fun w' => w'.cell? ⟨w.heap.size, 0, none⟩ = some (.bool s) ∧ w'.cell? ⟨w.heap.size, 1, none⟩ = some (.slice a n c) ∧ w'.cell? ⟨w.heap.size, 2, none⟩ = some (.slice a' n' c') ∧ w'.cell? ⟨w.heap.size + 1, 0, none⟩ = some (.bool t) ∧ w'.cell? ⟨w.heap.size + 1, 1, none⟩ = some (.slice b m g) ∧ w'.cell? ⟨w.heap.size + 1, 2, none⟩ = some (.slice b' m' g')) (first | exact ⟨cB_5_0, cB_5_1, cB_5_2, cC_5_0, cC_5_1, cC_5_2⟩ | exact ⟨cB_4_0, cB_4_1, cB_4_2, cC_4_0, cC_4_1, cC_4_2⟩ | exact ⟨cB_3_0, cB_3_1, cB_3_2, cC_3_0, cC_3_1, cC_3_2⟩ | go_keep)
    (first
      | (go_at_call_of 45 (Value.agg #[Value.bool t, Value.slice b m g, Value.slice b' m' g']); ((with_reducible refine Calls.mono (DB.out _ Y'_4.out) ?_); rintro e w5 ⟨vB, rfl, hu2, k5⟩; have X_5 := Lib.hid (X_4.out.keep k5); have X'_5 := Lib.hid (X'_4.out.keep k5); have Y_5 := Lib.hid (Y_4.out.keep k5); have Y'_5 := Lib.hid (Y'_4.out.keep k5); have T_5 := Lib.hid (T_4.out.keep k5); have B_5 := Lib.hid (B_4.out.keep k5); have C_5 := Lib.hid (C_4.out.keep k5); have R_5 := Lib.hid (R_4.out.keep k5); have U_5 := Lib.hid (U_4.out.keep k5); have V_5 := Lib.hid hu2; clear hu2; have KW_5 := Lib.hid (KW_4.out.trans k5); obtain ⟨cB_5_0, cB_5_1, cB_5_2, -, -, -, -⟩ := id B_5.out; obtain ⟨cC_5_0, cC_5_1, cC_5_2, -, -, -, -⟩ := id C_5.out; clear k5))
      | (go_at_call_of 45 (Value.agg #[Value.bool s, Value.slice a n c, Value.slice a' n' c']); ((with_reducible refine Calls.mono (DA.out _ X'_3.out) ?_); rintro e w4 ⟨vA, rfl, hu1, k4⟩; have X_4 := Lib.hid (X_3.out.keep k4); have X'_4 := Lib.hid (X'_3.out.keep k4); have Y_4 := Lib.hid (Y_3.out.keep k4); have Y'_4 := Lib.hid (Y'_3.out.keep k4); have T_4 := Lib.hid (T_3.out.keep k4); have B_4 := Lib.hid (B_3.out.keep k4); have C_4 := Lib.hid (C_3.out.keep k4); have R_4 := Lib.hid (R_3.out.keep k4); have U_4 := Lib.hid hu1; clear hu1; have KW_4 := Lib.hid (KW_3.out.trans k4); obtain ⟨cB_4_0, cB_4_1, cB_4_2, -, -, -, -⟩ := id B_4.out; obtain ⟨cC_4_0, cC_4_1, cC_4_2, -, -, -, -⟩ := id C_4.out; clear k4)))
  clear cB_5_0 cB_5_1 cB_5_2 cC_5_0 cC_5_1 cC_5_2 cB_4_0 cB_4_1 cB_4_2 cC_4_0 cC_4_1 cC_4_2 cB_3_0 cB_3_1 cB_3_2 cC_3_0 cC_3_1 cC_3_2
  obtain ⟨B_c0, B_c1, B_c2, -, -, -, -⟩ := id B_5.out
  obtain ⟨C_c0, C_c1, C_c2, -, -, -, -⟩ := id C_5.out
  obtain ⟨R_c0, R_c1, R_c2, -, -, -, -⟩ := id R_5.out
  go_wp2_with fail
  refine Calls.mono (CM.out _ _ _ U_5.out V_5.out) ?_
  rintro e w6 ⟨rfl, k6⟩
  clear B_c0 B_c1 B_c2 C_c0 C_c1 C_c2 R_c0 R_c1 R_c2
  have X_6 := Lib.hid (X_5.out.keep k6)
  have X'_6 := Lib.hid (X'_5.out.keep k6)
  have Y_6 := Lib.hid (Y_5.out.keep k6)
  have Y'_6 := Lib.hid (Y'_5.out.keep k6)
  have T_6 := Lib.hid (T_5.out.keep k6)
  have B_6 := Lib.hid (B_5.out.keep k6)
  have C_6 := Lib.hid (C_5.out.keep k6)
  have R_6 := Lib.hid (R_5.out.keep k6)
  have U_6 := Lib.hid (U_5.out.keep k6)
  have V_6 := Lib.hid (V_5.out.keep k6)
  have KW_6 := Lib.hid (KW_5.out.trans k6)
  clear k6 X_5 X'_5 Y_5 Y'_5 T_5 B_5 C_5 R_5 U_5 V_5 KW_5
  clear CM DA DB
  obtain ⟨B_c0, B_c1, B_c2, -, -, -, -⟩ := id B_6.out
  obtain ⟨C_c0, C_c1, C_c2, -, -, -, -⟩ := id C_6.out
  obtain ⟨R_c0, R_c1, R_c2, -, -, -, -⟩ := id R_6.out
  go_wp2_with fail
  refine Calls.mono (IA.out _ X_6.out Y_6.out) ?_
  rintro e w7 ⟨v, rfl, hI, k7⟩
  clear B_c0 B_c1 B_c2 C_c0 C_c1 C_c2 R_c0 R_c1 R_c2
  have T_7 := Lib.hid (T_6.out.keep k7)
  have B_7 := Lib.hid (B_6.out.keep k7)
  have C_7 := Lib.hid (C_6.out.keep k7)
  have R_7 := Lib.hid (R_6.out.keep k7)
  have U_7 := Lib.hid (U_6.out.keep k7)
  have V_7 := Lib.hid (V_6.out.keep k7)
  have I_7 := Lib.hid hI
  have KW_7 := Lib.hid (KW_6.out.trans k7)
  clear k7 X_6 Y_6 X'_6 Y'_6 T_6 B_6 C_6 R_6 U_6 V_6 hI KW_6
  obtain ⟨za, zn, zc, rfl, _, _⟩ := I_7.out.form'
  obtain ⟨bz, hbz⟩ : ∃ b, decide (z < 0) = b := ⟨_, rfl⟩
  rw [hbz] at RD ⊢
  have I_57 := Lib.hid (I_7.out)
  rw [hbz] at I_57
  clear hbz
  have T_8 := Lib.hid (T_7.out.keep ((Keep.refl _).alloc (.cells #[.bool bz, .slice za zn zc] 51)))
  have B_8 := Lib.hid (B_7.out.keep ((Keep.refl _).alloc (.cells #[.bool bz, .slice za zn zc] 51)))
  have C_8 := Lib.hid (C_7.out.keep ((Keep.refl _).alloc (.cells #[.bool bz, .slice za zn zc] 51)))
  have R_8 := Lib.hid (R_7.out.keep ((Keep.refl _).alloc (.cells #[.bool bz, .slice za zn zc] 51)))
  have U_8 := Lib.hid (U_7.out.keep ((Keep.refl _).alloc (.cells #[.bool bz, .slice za zn zc] 51)))
  have V_8 := Lib.hid (V_7.out.keep ((Keep.refl _).alloc (.cells #[.bool bz, .slice za zn zc] 51)))
  have I_8 := Lib.hid (I_57.out.keep ((Keep.refl _).alloc (.cells #[.bool bz, .slice za zn zc] 51)))
  have KW_8 := Lib.hid (KW_7.out.trans ((Keep.refl _).alloc (.cells #[.bool bz, .slice za zn zc] 51)))
  clear T_7 B_7 C_7 R_7 U_7 V_7 I_57 KW_7
  have P_8 := Lib.hid (RBox.new w7 bz za zn zc)
  obtain ⟨B_c0, B_c1, B_c2, -, -, -, -⟩ := id B_8.out
  obtain ⟨C_c0, C_c1, C_c2, -, -, -, -⟩ := id C_8.out
  obtain ⟨R_c0, R_c1, R_c2, -, -, -, -⟩ := id R_8.out
  obtain ⟨P_c0, P_c1, -, -, -⟩ := id P_8.out
  go_wp2_with fail
  refine Calls.mono (RD.out _ _ _ (Ci.cn I_8.out) U_8.out T_8.out) ?_
  rintro e wz ⟨u, rfl, hu, kz⟩
  clear B_c0 B_c1 B_c2 C_c0 C_c1 C_c2 R_c0 R_c1 R_c2 P_c0 P_c1
  obtain ⟨b0, a0, n0, c0, a1, n1, c1, rfl, hcr, hkk, f0, f1, f2, g0, g1, g2, s0, s1, s2⟩ := hu.put (R_8.out.keep kz) (KW_8.out.trans kz) (by omega)
  have FIN := Lib.hid (show RPost q w (.returned (.agg #[.bool b0, .slice a0 n0 c0, .slice a1 n1 c1])) _ from ⟨_, rfl, hcr, hkk⟩)
  clear hcr hkk hu kz KW_8 T_8 B_8 C_8 R_8 U_8 V_8 I_8 P_8
  go_wp2
  refine bodyPost_ret (v := .agg #[.bool b0, .slice a0 n0 c0, .slice a1 n1 c1]) (by simp [results, Tryd.results26, go_sem, s0, s1, s2]) rfl ?_
  exact FIN.out
set_option maxHeartbeats 1600000 in
theorem add_diff {w : World} {s t : Bool} {a a' b b' : Option Addr} {n c n' c' m g m' g' N D M E k : Nat} (hN : Nm w (.slice a n c) N k) (hD : Nm w (.slice a' n' c') D k) (hM : Nm w (.slice b m g) M k) (hE : Nm w (.slice b' m' g') E k) (hk : k < 48) (hk1 : 1 ≤ k) (hT : Tab w) (hde : ¬ dn D = dn E) :
    Calls Tryd.prog 26 #[.agg #[.bool s, .slice a n c, .slice a' n' c'], .agg #[.bool t, .slice b m g, .slice b' m' g']] w (RPost (rv s N D + rv t M E) w) := by
  obtain ⟨B_0, C_0, R_0, KW_0⟩ := op2 w s a n c a' n' c' t b m g b' m' g'
  have X_0 := Lib.hid (hN.keep KW_0.out)
  have X'_0 := Lib.hid (hD.keep KW_0.out)
  have Y_0 := Lib.hid (hM.keep KW_0.out)
  have Y'_0 := Lib.hid (hE.keep KW_0.out)
  have T_0 := Lib.hid (hT.keep KW_0.out)
  have AW := Lib.hid (fun w1 (h1 : Nm w1 (.slice a n c) N k) (h2 : Nm w1 (.slice a' n' c') D k) (h3 : Nm w1 (.slice b m g) M k) (h4 : Nm w1 (.slice b' m' g') E k) (h5 : Tab w1) => addWords_c (s := s) (t := t) h1 h2 h3 h4 h5)
  have DA := Lib.hid (fun w1 (h : Nm w1 (.slice a' n' c') D k) => den_c (s := s) (a := a) (n := n) (c := c) h (by omega) hk1)
  have DB := Lib.hid (fun w1 (h : Nm w1 (.slice b' m' g') E k) => den_c (s := t) (a := b) (n := m) (c := g) h (by omega) hk1)
  have CM := Lib.hid (fun w1 u v (h : Nm w1 u (dn D) k) (h' : Nm w1 v (dn E) k) => cmp_n h h')
  obtain ⟨z0, hz0⟩ : ∃ z, cmpv (dn D) (dn E) = z := ⟨_, rfl⟩
  have hz1 : (z0 == 0) = false := by
    rw [← hz0, cmpv_eq0]; simp [hde]
  rw [hz0] at CM
  have lN := hN.lt
  have lM := hM.lt
  have lD := dn_lt' hD.lt hk1
  have lE := dn_lt' hE.lt hk1
  have M1 := Lib.hid (fun w1 u (h : Nm w1 (.slice a n c) N k) (hu : Nm w1 u (dn E) k) => mul_n h hu (by omega) (by omega) (.inl hk))
  have M2 := Lib.hid (fun w1 u (h : Nm w1 (.slice b m g) M k) (hu : Nm w1 u (dn D) k) => mul_n h hu (by omega) (by omega) (.inl hk))
  have M3 := Lib.hid (fun w1 u v (h : Nm w1 u (dn D) k) (hu : Nm w1 v (dn E) k) => mul_n h hu (by omega) (by omega) (.inl hk))
  have l1 := lt_mul_pow lN lE
  have l2 := lt_mul_pow lM lD
  have l3 := lt_mul_pow lD lE
  have IA := Lib.hid (fun w1 x y (h : Cn w1 x (N * dn E)) (h' : Cn w1 y (M * dn D)) => iadd_c (w := w1) (v := .agg #[.bool s, x]) (u := .agg #[.bool t, y]) (s := s) (s' := t) ⟨_, rfl, h.nm l1⟩ ⟨_, rfl, h'.nm l2⟩ (by omega) (by omega))
  have hzl := iv_add_abs s t l1 l2
  have hq0 := rv_add s t N M D E
  have hde0 : dn D * dn E ≠ 0 := Nat.mul_ne_zero (dn_ne D) (dn_ne E)
  rw [mkRat_rv _ _ hde0] at hq0
  obtain ⟨q, hq⟩ : ∃ q, rv s N D + rv t M E = q := ⟨_, rfl⟩
  rw [hq] at AW hq0 ⊢
  obtain ⟨z, hz⟩ : ∃ z, iv s (N * dn E) + iv t (M * dn D) = z := ⟨_, rfl⟩
  rw [hz] at IA hzl hq0
  have RD := Lib.hid (fun w1 x u (hx : Cn w1 x z.natAbs) (hu : Cn w1 u (dn D * dn E)) (hT1 : Tab w1) => reduce_c (decide (z < 0)) (hx.nm hzl) ((hu.nm l3).up (Nat.le_succ _)) hde0 (by omega) hT1)
  rw [← hq0] at RD
  clear hq hq0 hz hzl lN lM lD lE l1 l2 l3 hde0 hde
  clear hN hD hM hE hT hz0
  go_enter Tryd.func26, Tryd.ntmps26
  obtain ⟨B_c0, B_c1, B_c2, -, -, -, -⟩ := id B_0.out
  obtain ⟨C_c0, C_c1, C_c2, -, -, -, -⟩ := id C_0.out
  obtain ⟨R_c0, R_c1, R_c2, -, -, -, -⟩ := id R_0.out
  go_wp2_with fail
  refine Calls.mono (AW.out _ X_0.out X'_0.out Y_0.out Y'_0.out T_0.out) ?_
  rintro e w1 hor
  rcases hor with ⟨u, rfl, hu, k1⟩ | ⟨rfl, k1⟩
  · obtain ⟨ra, rn, rc, ra', rn', rc', rfl, _, _, hr, hr'⟩ := hu.form
    obtain ⟨bq, hb⟩ : ∃ b, decide (q.num < 0) = b := ⟨_, rfl⟩
    rw [hb]
    obtain ⟨F, hkk, s0, s1, s2⟩ := put_of (w0 := w) hb (hr.alloc (.cells #[.bool bq, .slice ra rn rc, .slice ra' rn' rc'] 25)) (hr'.alloc (.cells #[.bool bq, .slice ra rn rc, .slice ra' rn' rc'] 25)) ((R_0.out.keep k1).keep ((Keep.refl _).alloc (.cells #[.bool bq, .slice ra rn rc, .slice ra' rn' rc'] 25))) ((KW_0.out.trans k1).alloc (.cells #[.bool bq, .slice ra rn rc, .slice ra' rn' rc'] 25)) (by omega)
    have FIN := Lib.hid F
    obtain ⟨y0, y1, y2, f0, f1, f2, _⟩ := (R_0.out.keep k1).keep ((Keep.refl _).alloc (.cells #[.bool bq, .slice ra rn rc, .slice ra' rn' rc'] 25))
    clear F hkk hr hr' hb k1 hu B_c0 B_c1 B_c2 C_c0 C_c1 C_c2 R_c0 R_c1 R_c2
    go_wp2
    refine bodyPost_ret (v := .agg #[.bool bq, .slice ra rn rc, .slice ra' rn' rc']) (by simp [results, Tryd.results26, go_sem, s0, s1, s2]) rfl ?_
    exact FIN.out
  clear AW
  clear B_c0 B_c1 B_c2 C_c0 C_c1 C_c2 R_c0 R_c1 R_c2
  have X_1 := Lib.hid (X_0.out.keep k1)
  have X'_1 := Lib.hid (X'_0.out.keep k1)
  have Y_1 := Lib.hid (Y_0.out.keep k1)
  have Y'_1 := Lib.hid (Y'_0.out.keep k1)
  have T_1 := Lib.hid (T_0.out.keep k1)
  have B_1 := Lib.hid (B_0.out.keep k1)
  have C_1 := Lib.hid (C_0.out.keep k1)
  have R_1 := Lib.hid (R_0.out.keep k1)
  have KW_1 := Lib.hid (KW_0.out.trans k1)
  clear k1 X_0 X'_0 Y_0 Y'_0 T_0 B_0 C_0 R_0 KW_0
  have X_2 := Lib.hid (X_1.out.keep ((Keep.refl _).alloc (.cells #[.bool false, .slice none 0 0, .slice none 0 0] 25)))
  have X'_2 := Lib.hid (X'_1.out.keep ((Keep.refl _).alloc (.cells #[.bool false, .slice none 0 0, .slice none 0 0] 25)))
  have Y_2 := Lib.hid (Y_1.out.keep ((Keep.refl _).alloc (.cells #[.bool false, .slice none 0 0, .slice none 0 0] 25)))
  have Y'_2 := Lib.hid (Y'_1.out.keep ((Keep.refl _).alloc (.cells #[.bool false, .slice none 0 0, .slice none 0 0] 25)))
  have T_2 := Lib.hid (T_1.out.keep ((Keep.refl _).alloc (.cells #[.bool false, .slice none 0 0, .slice none 0 0] 25)))
  have B_2 := Lib.hid (B_1.out.keep ((Keep.refl _).alloc (.cells #[.bool false, .slice none 0 0, .slice none 0 0] 25)))
  have C_2 := Lib.hid (C_1.out.keep ((Keep.refl _).alloc (.cells #[.bool false, .slice none 0 0, .slice none 0 0] 25)))
  have R_2 := Lib.hid (R_1.out.keep ((Keep.refl _).alloc (.cells #[.bool false, .slice none 0 0, .slice none 0 0] 25)))
  have KW_2 := Lib.hid (KW_1.out.trans ((Keep.refl _).alloc (.cells #[.bool false, .slice none 0 0, .slice none 0 0] 25)))
  clear X_1 X'_1 Y_1 Y'_1 T_1 B_1 C_1 R_1 KW_1
  have X_3 := Lib.hid (X_2.out.keep (keep_drew _))
  clear X_2
  have X'_3 := Lib.hid (X'_2.out.keep (keep_drew _))
  clear X'_2
  have Y_3 := Lib.hid (Y_2.out.keep (keep_drew _))
  clear Y_2
  have Y'_3 := Lib.hid (Y'_2.out.keep (keep_drew _))
  clear Y'_2
  have T_3 := Lib.hid (T_2.out.keep (keep_drew _))
  clear T_2
  have B_3 := Lib.hid (B_2.out.keep (keep_drew _))
  clear B_2
  have C_3 := Lib.hid (C_2.out.keep (keep_drew _))
  clear C_2
  have R_3 := Lib.hid (R_2.out.keep (keep_drew _))
  clear R_2
  have KW_3 := Lib.hid (KW_2.out.trans (keep_drew _))
  clear KW_2
  obtain ⟨cB_3_0, cB_3_1, cB_3_2, -, -, -, -⟩ := id B_3.out
  obtain ⟨cC_3_0, cC_3_1, cC_3_2, -, -, -, -⟩ := id C_3.out
  go_wp2
  go_region_held3 (fun w' => w'.cell? ⟨w.heap.size, 0, none⟩ = some (.bool s) ∧ w'.cell? ⟨w.heap.size, 1, none⟩ = some (.slice a n c) ∧ w'.cell? ⟨w.heap.size, 2, none⟩ = some (.slice a' n' c') ∧ w'.cell? ⟨w.heap.size + 1, 0, none⟩ = some (.bool t) ∧ w'.cell? ⟨w.heap.size + 1, 1, none⟩ = some (.slice b m g) ∧ w'.cell? ⟨w.heap.size + 1, 2, none⟩ = some (.slice b' m' g')) (first | exact ⟨cB_5_0, cB_5_1, cB_5_2, cC_5_0, cC_5_1, cC_5_2⟩ | exact ⟨cB_4_0, cB_4_1, cB_4_2, cC_4_0, cC_4_1, cC_4_2⟩ | exact ⟨cB_3_0, cB_3_1, cB_3_2, cC_3_0, cC_3_1, cC_3_2⟩ | go_keep)
    (first
      | (go_at_call_of 45 (Value.agg #[Value.bool t, Value.slice b m g, Value.slice b' m' g']); ((with_reducible refine Calls.mono (DB.out _ Y'_4.out) ?_); rintro e w5 ⟨vB, rfl, hu2, k5⟩; have X_5 := Lib.hid (X_4.out.keep k5); have X'_5 := Lib.hid (X'_4.out.keep k5); have Y_5 := Lib.hid (Y_4.out.keep k5); have Y'_5 := Lib.hid (Y'_4.out.keep k5); have T_5 := Lib.hid (T_4.out.keep k5); have B_5 := Lib.hid (B_4.out.keep k5); have C_5 := Lib.hid (C_4.out.keep k5); have R_5 := Lib.hid (R_4.out.keep k5); have U_5 := Lib.hid (U_4.out.keep k5); have V_5 := Lib.hid hu2; clear hu2; have KW_5 := Lib.hid (KW_4.out.trans k5); obtain ⟨cB_5_0, cB_5_1, cB_5_2, -, -, -, -⟩ := id B_5.out; obtain ⟨cC_5_0, cC_5_1, cC_5_2, -, -, -, -⟩ := id C_5.out; clear k5))
      | (go_at_call_of 45 (Value.agg #[Value.bool s, Value.slice a n c, Value.slice a' n' c']); ((with_reducible refine Calls.mono (DA.out _ X'_3.out) ?_); rintro e w4 ⟨vA, rfl, hu1, k4⟩; have X_4 := Lib.hid (X_3.out.keep k4); have X'_4 := Lib.hid (X'_3.out.keep k4); have Y_4 := Lib.hid (Y_3.out.keep k4); have Y'_4 := Lib.hid (Y'_3.out.keep k4); have T_4 := Lib.hid (T_3.out.keep k4); have B_4 := Lib.hid (B_3.out.keep k4); have C_4 := Lib.hid (C_3.out.keep k4); have R_4 := Lib.hid (R_3.out.keep k4); have U_4 := Lib.hid hu1; clear hu1; have KW_4 := Lib.hid (KW_3.out.trans k4); obtain ⟨cB_4_0, cB_4_1, cB_4_2, -, -, -, -⟩ := id B_4.out; obtain ⟨cC_4_0, cC_4_1, cC_4_2, -, -, -, -⟩ := id C_4.out; clear k4)))
  clear cB_5_0 cB_5_1 cB_5_2 cC_5_0 cC_5_1 cC_5_2 cB_4_0 cB_4_1 cB_4_2 cC_4_0 cC_4_1 cC_4_2 cB_3_0 cB_3_1 cB_3_2 cC_3_0 cC_3_1 cC_3_2
  obtain ⟨B_c0, B_c1, B_c2, -, -, -, -⟩ := id B_5.out
  obtain ⟨C_c0, C_c1, C_c2, -, -, -, -⟩ := id C_5.out
  obtain ⟨R_c0, R_c1, R_c2, -, -, -, -⟩ := id R_5.out
  go_wp2_with fail
  refine Calls.mono (CM.out _ _ _ U_5.out V_5.out) ?_
  rintro e w6 ⟨rfl, k6⟩
  clear B_c0 B_c1 B_c2 C_c0 C_c1 C_c2 R_c0 R_c1 R_c2
  have X_6 := Lib.hid (X_5.out.keep k6)
  have X'_6 := Lib.hid (X'_5.out.keep k6)
  have Y_6 := Lib.hid (Y_5.out.keep k6)
  have Y'_6 := Lib.hid (Y'_5.out.keep k6)
  have T_6 := Lib.hid (T_5.out.keep k6)
  have B_6 := Lib.hid (B_5.out.keep k6)
  have C_6 := Lib.hid (C_5.out.keep k6)
  have R_6 := Lib.hid (R_5.out.keep k6)
  have U_6 := Lib.hid (U_5.out.keep k6)
  have V_6 := Lib.hid (V_5.out.keep k6)
  have KW_6 := Lib.hid (KW_5.out.trans k6)
  clear k6 X_5 X'_5 Y_5 Y'_5 T_5 B_5 C_5 R_5 U_5 V_5 KW_5
  clear CM DA DB
  have HLO : Hid (w.heap.size + 1 + 1 + 1 ≤ w6.heap.size) := Lib.hid (by have h9 := (R_6.out).lt; omega)
  go_upto_region 8 with fail
  go_cut [10] (fun sv wc => PBox w6 (w.heap.size + 1 + 1 + 1) (s) (N * dn E) sv wc)
  case first =>
    have cfA := Lib.hid (B_6.out.keep (keep_drew _))
    have cfB := Lib.hid (B_6.out.keep (((Keep.refl _).alloc (.cells #[.bool false, .slice none 0 0] 51)).drew))
    obtain ⟨cA_0, cA_1, cA_2, -, -, -, -⟩ := cfA.out.keep (Keep.refl _)
    obtain ⟨cB_0, cB_1, cB_2, -, -, -, -⟩ := cfB.out.keep (Keep.refl _)
    have cxB := Lib.hid ((RBox.new w6 false none 0 0).keep (keep_drew _))
    have nX_A := Lib.hid (X_6.out.keep (keep_drew _))
    have nX_B := Lib.hid (X_6.out.keep (((Keep.refl _).alloc (.cells #[.bool false, .slice none 0 0] 51)).drew))
    have nV_A := Lib.hid (V_6.out.keep (keep_drew _))
    have nV_B := Lib.hid (V_6.out.keep (((Keep.refl _).alloc (.cells #[.bool false, .slice none 0 0] 51)).drew))
    have nK_B := Lib.hid (((Keep.refl w6).alloc (.cells #[.bool false, .slice none 0 0] 51)).drew)
    have nK_A := Lib.hid (keep_drew w6)
    go_wp2
    go_region_held3 (fun w' => w'.cell? ⟨w.heap.size, 0, none⟩ = some (.bool s) ∧ w'.cell? ⟨w.heap.size, 1, none⟩ = some (.slice a n c) ∧ w'.cell? ⟨w.heap.size, 2, none⟩ = some (.slice a' n' c')) (first | exact ⟨rB_0, rB_1, rB_2⟩ | exact ⟨pB_0, pB_1, pB_2⟩ | exact ⟨rA_0, rA_1, rA_2⟩ | exact ⟨qA_0, qA_1, qA_2⟩ | exact ⟨pA_0, pA_1, pA_2⟩ | exact ⟨cB_0, cB_1, cB_2⟩ | exact ⟨cA_0, cA_1, cA_2⟩ | go_keep)
      (first
        | (go_at_call 44; ((with_reducible refine Calls.mono (M1.out _ _ nX_A.out nV_A.out) ?_); rintro e w7 ⟨vC, rfl, hP, k7⟩; obtain ⟨xa, xl, xc, rfl, hxr⟩ := hP; have kz : Keep w7 (w7.alloc (.cells #[.bool s, .slice xa xl xc] 51)) := (Keep.refl w7).alloc _; have FIN := Lib.hid (show PBox w6 (w.heap.size + 1 + 1 + 1) (s) (N * dn E) (.pointer (some ⟨w7.heap.size, 0, none⟩)) (w7.alloc (.cells #[.bool s, .slice xa xl xc] 51)) from ⟨w7.heap.size, xa, xl, xc, rfl, Nat.le_trans (HLO.out) (nK_A.out.trans k7).size, RBox.new w7 _ _ _ _, ⟨_, _, _, rfl, hxr.below kz⟩, (nK_A.out.trans k7).trans kz⟩); obtain ⟨pA_0, pA_1, pA_2, -, -, -, -⟩ := cfA.out.keep (k7); obtain ⟨qA_0, qA_1, qA_2, -, -, -, -⟩ := cfA.out.keep (k7.trans ((Keep.refl w7).alloc (.cells #[.bool false, .slice none 0 0] 51))); obtain ⟨rA_0, rA_1, rA_2, -, -, -, -⟩ := cfA.out.keep (k7.trans kz); clear kz k7 hxr))
        | (go_at_call 44; ((with_reducible refine Calls.mono (M1.out _ _ nX_B.out nV_B.out) ?_); rintro e w7 ⟨vC, rfl, hP, k7⟩; obtain ⟨xa, xl, xc, rfl, hxr⟩ := hP; have BX := cxB.out.keep k7; obtain ⟨hs1, hs2, r0, r1⟩ := BX.store (nK_B.out.trans k7) (Nat.le_refl _) (.bool s) (.slice xa xl xc); have FIN := Lib.hid (show PBox w6 (w.heap.size + 1 + 1 + 1) (s) (N * dn E) (.pointer (some ⟨w6.heap.size, 0, none⟩)) ((w7.setCell ⟨w6.heap.size, 0, none⟩ (.bool s)).setCell ⟨w6.heap.size, 1, none⟩ (.slice xa xl xc)) from ⟨w6.heap.size, xa, xl, xc, rfl, HLO.out, BX.set _ _ _ _, ⟨_, _, _, rfl, hs2 _ _ _ _ hxr⟩, hs1⟩); obtain ⟨pB_0, pB_1, pB_2, -, -, -, -⟩ := cfB.out.keep (k7); have YB := (cfB.out.keep k7).other2 (g := w6.heap.size) (by have := HLO.out; omega) (.bool s) (.slice xa xl xc); obtain ⟨rB_0, rB_1, rB_2, -, -, -, -⟩ := YB; obtain ⟨q0, q1, q2, q3, -⟩ := BX; clear hs1 hs2 r0 r1 k7 hxr)))
    all_goals (go_wp2_with fail; go_meet; exact FIN.out)
  case rest =>
    obtain ⟨pg10, pa10, pl10, pc10, rfl, hg10, hbx, hcn, kx⟩ := hcut
    have HG10 := Lib.hid hg10
    clear hg10
    obtain ⟨wx10, rfl⟩ : ∃ x : World, x = wc := ⟨_, rfl⟩
    have X_7 := Lib.hid (X_6.out.keep kx)
    have X'_7 := Lib.hid (X'_6.out.keep kx)
    have Y_7 := Lib.hid (Y_6.out.keep kx)
    have Y'_7 := Lib.hid (Y'_6.out.keep kx)
    have T_7 := Lib.hid (T_6.out.keep kx)
    have B_7 := Lib.hid (B_6.out.keep kx)
    have C_7 := Lib.hid (C_6.out.keep kx)
    have R_7 := Lib.hid (R_6.out.keep kx)
    have U_7 := Lib.hid (U_6.out.keep kx)
    have V_7 := Lib.hid (V_6.out.keep kx)
    have PB10_7 := Lib.hid hbx
    have PC10_7 := Lib.hid hcn
    have KW_7 := Lib.hid (KW_6.out.trans kx)
    clear kx X_6 X'_6 Y_6 Y'_6 T_6 B_6 C_6 R_6 U_6 V_6 hbx hcn KW_6
    have HLO2 := HLO.out
    clear HLO
    have HLO : Hid (w.heap.size + 1 + 1 + 1 ≤ wx10.heap.size) := Lib.hid (by have h9 := (R_7.out).lt; omega)
    go_upto_region 9 with fail
    go_cut [11] (fun sv wc => PBox wx10 (w.heap.size + 1 + 1 + 1) (t) (M * dn D) sv wc)
    case first =>
      have cfA := Lib.hid (C_7.out.keep (keep_drew _))
      have cfB := Lib.hid (C_7.out.keep (((Keep.refl _).alloc (.cells #[.bool false, .slice none 0 0] 51)).drew))
      obtain ⟨cA_0, cA_1, cA_2, -, -, -, -⟩ := cfA.out.keep (Keep.refl _)
      obtain ⟨cB_0, cB_1, cB_2, -, -, -, -⟩ := cfB.out.keep (Keep.refl _)
      have cxB := Lib.hid ((RBox.new wx10 false none 0 0).keep (keep_drew _))
      have nY_A := Lib.hid (Y_7.out.keep (keep_drew _))
      have nY_B := Lib.hid (Y_7.out.keep (((Keep.refl _).alloc (.cells #[.bool false, .slice none 0 0] 51)).drew))
      have nU_A := Lib.hid (U_7.out.keep (keep_drew _))
      have nU_B := Lib.hid (U_7.out.keep (((Keep.refl _).alloc (.cells #[.bool false, .slice none 0 0] 51)).drew))
      have nK_B := Lib.hid (((Keep.refl wx10).alloc (.cells #[.bool false, .slice none 0 0] 51)).drew)
      have nK_A := Lib.hid (keep_drew wx10)
      go_wp2
      go_region_held3 (fun w' => w'.cell? ⟨w.heap.size + 1, 0, none⟩ = some (.bool t) ∧ w'.cell? ⟨w.heap.size + 1, 1, none⟩ = some (.slice b m g) ∧ w'.cell? ⟨w.heap.size + 1, 2, none⟩ = some (.slice b' m' g')) (first | exact ⟨rB_0, rB_1, rB_2⟩ | exact ⟨pB_0, pB_1, pB_2⟩ | exact ⟨rA_0, rA_1, rA_2⟩ | exact ⟨qA_0, qA_1, qA_2⟩ | exact ⟨pA_0, pA_1, pA_2⟩ | exact ⟨cB_0, cB_1, cB_2⟩ | exact ⟨cA_0, cA_1, cA_2⟩ | go_keep)
        (first
          | (go_at_call 44; ((with_reducible refine Calls.mono (M2.out _ _ nY_A.out nU_A.out) ?_); rintro e w7 ⟨vC, rfl, hP, k7⟩; obtain ⟨xa, xl, xc, rfl, hxr⟩ := hP; have kz : Keep w7 (w7.alloc (.cells #[.bool t, .slice xa xl xc] 51)) := (Keep.refl w7).alloc _; have FIN := Lib.hid (show PBox wx10 (w.heap.size + 1 + 1 + 1) (t) (M * dn D) (.pointer (some ⟨w7.heap.size, 0, none⟩)) (w7.alloc (.cells #[.bool t, .slice xa xl xc] 51)) from ⟨w7.heap.size, xa, xl, xc, rfl, Nat.le_trans (HLO.out) (nK_A.out.trans k7).size, RBox.new w7 _ _ _ _, ⟨_, _, _, rfl, hxr.below kz⟩, (nK_A.out.trans k7).trans kz⟩); obtain ⟨pA_0, pA_1, pA_2, -, -, -, -⟩ := cfA.out.keep (k7); obtain ⟨qA_0, qA_1, qA_2, -, -, -, -⟩ := cfA.out.keep (k7.trans ((Keep.refl w7).alloc (.cells #[.bool false, .slice none 0 0] 51))); obtain ⟨rA_0, rA_1, rA_2, -, -, -, -⟩ := cfA.out.keep (k7.trans kz); clear kz k7 hxr))
          | (go_at_call 44; ((with_reducible refine Calls.mono (M2.out _ _ nY_B.out nU_B.out) ?_); rintro e w7 ⟨vC, rfl, hP, k7⟩; obtain ⟨xa, xl, xc, rfl, hxr⟩ := hP; have BX := cxB.out.keep k7; obtain ⟨hs1, hs2, r0, r1⟩ := BX.store (nK_B.out.trans k7) (Nat.le_refl _) (.bool t) (.slice xa xl xc); have FIN := Lib.hid (show PBox wx10 (w.heap.size + 1 + 1 + 1) (t) (M * dn D) (.pointer (some ⟨wx10.heap.size, 0, none⟩)) ((w7.setCell ⟨wx10.heap.size, 0, none⟩ (.bool t)).setCell ⟨wx10.heap.size, 1, none⟩ (.slice xa xl xc)) from ⟨wx10.heap.size, xa, xl, xc, rfl, HLO.out, BX.set _ _ _ _, ⟨_, _, _, rfl, hs2 _ _ _ _ hxr⟩, hs1⟩); obtain ⟨pB_0, pB_1, pB_2, -, -, -, -⟩ := cfB.out.keep (k7); have YB := (cfB.out.keep k7).other2 (g := wx10.heap.size) (by have := HLO.out; omega) (.bool t) (.slice xa xl xc); obtain ⟨rB_0, rB_1, rB_2, -, -, -, -⟩ := YB; obtain ⟨q0, q1, q2, q3, -⟩ := BX; clear hs1 hs2 r0 r1 k7 hxr)))
      all_goals (go_wp2_with fail; go_meet; exact FIN.out)
    case rest =>
      obtain ⟨pg11, pa11, pl11, pc11, rfl, hg11, hbx, hcn, kx⟩ := hcut
      have HG11 := Lib.hid hg11
      clear hg11
      obtain ⟨wx11, rfl⟩ : ∃ x : World, x = wc := ⟨_, rfl⟩
      have X_8 := Lib.hid (X_7.out.keep kx)
      have X'_8 := Lib.hid (X'_7.out.keep kx)
      have Y_8 := Lib.hid (Y_7.out.keep kx)
      have Y'_8 := Lib.hid (Y'_7.out.keep kx)
      have T_8 := Lib.hid (T_7.out.keep kx)
      have B_8 := Lib.hid (B_7.out.keep kx)
      have C_8 := Lib.hid (C_7.out.keep kx)
      have R_8 := Lib.hid (R_7.out.keep kx)
      have U_8 := Lib.hid (U_7.out.keep kx)
      have V_8 := Lib.hid (V_7.out.keep kx)
      have PB10_8 := Lib.hid (PB10_7.out.keep kx)
      have PC10_8 := Lib.hid (PC10_7.out.keep kx)
      have PB11_8 := Lib.hid hbx
      have PC11_8 := Lib.hid hcn
      have KW_8 := Lib.hid (KW_7.out.trans kx)
      clear kx X_7 X'_7 Y_7 Y'_7 T_7 B_7 C_7 R_7 U_7 V_7 PB10_7 PC10_7 hbx hcn KW_7
      clear M1 M2 HLO
      obtain ⟨B_c0, B_c1, B_c2, -, -, -, -⟩ := id B_8.out
      obtain ⟨C_c0, C_c1, C_c2, -, -, -, -⟩ := id C_8.out
      obtain ⟨R_c0, R_c1, R_c2, -, -, -, -⟩ := id R_8.out
      obtain ⟨PB10_c0, PB10_c1, -, -, -⟩ := id PB10_8.out
      obtain ⟨PB11_c0, PB11_c1, -, -, -⟩ := id PB11_8.out
      go_wp2_with fail
      refine Calls.mono (IA.out _ _ _ PC10_8.out PC11_8.out) ?_
      rintro e w9 ⟨vI, rfl, hI, k9⟩
      clear B_c0 B_c1 B_c2 C_c0 C_c1 C_c2 R_c0 R_c1 R_c2 PB10_c0 PB10_c1 PB11_c0 PB11_c1
      have T_9 := Lib.hid (T_8.out.keep k9)
      have R_9 := Lib.hid (R_8.out.keep k9)
      have U_9 := Lib.hid (U_8.out.keep k9)
      have V_9 := Lib.hid (V_8.out.keep k9)
      have PB10_9 := Lib.hid (PB10_8.out.keep k9)
      have PC10_9 := Lib.hid (PC10_8.out.keep k9)
      have PB11_9 := Lib.hid (PB11_8.out.keep k9)
      have PC11_9 := Lib.hid (PC11_8.out.keep k9)
      have I_9 := Lib.hid hI
      have KW_9 := Lib.hid (KW_8.out.trans k9)
      clear k9 X_8 Y_8 X'_8 Y'_8 B_8 C_8 T_8 R_8 U_8 V_8 PB10_8 PC10_8 PB11_8 PC11_8 hI KW_8
      obtain ⟨za, zn, zc, rfl, _, _⟩ := I_9.out.form'
      obtain ⟨bz, hbz⟩ : ∃ b, decide (z < 0) = b := ⟨_, rfl⟩
      rw [hbz] at RD ⊢
      have I_59 := Lib.hid (I_9.out)
      rw [hbz] at I_59
      clear hbz
      have hlt9 : w.heap.size + 1 + 1 < w9.heap.size := (R_9.out).lt
      have T_10 := Lib.hid (T_9.out.keep ((Keep.refl _).alloc (.cells #[.bool bz, .slice za zn zc] 51)))
      have R_10 := Lib.hid (R_9.out.keep ((Keep.refl _).alloc (.cells #[.bool bz, .slice za zn zc] 51)))
      have U_10 := Lib.hid (U_9.out.keep ((Keep.refl _).alloc (.cells #[.bool bz, .slice za zn zc] 51)))
      have V_10 := Lib.hid (V_9.out.keep ((Keep.refl _).alloc (.cells #[.bool bz, .slice za zn zc] 51)))
      have PB10_10 := Lib.hid (PB10_9.out.keep ((Keep.refl _).alloc (.cells #[.bool bz, .slice za zn zc] 51)))
      have PC10_10 := Lib.hid (PC10_9.out.keep ((Keep.refl _).alloc (.cells #[.bool bz, .slice za zn zc] 51)))
      have PB11_10 := Lib.hid (PB11_9.out.keep ((Keep.refl _).alloc (.cells #[.bool bz, .slice za zn zc] 51)))
      have PC11_10 := Lib.hid (PC11_9.out.keep ((Keep.refl _).alloc (.cells #[.bool bz, .slice za zn zc] 51)))
      have I_10 := Lib.hid (I_59.out.keep ((Keep.refl _).alloc (.cells #[.bool bz, .slice za zn zc] 51)))
      have KW_10 := Lib.hid (KW_9.out.trans ((Keep.refl _).alloc (.cells #[.bool bz, .slice za zn zc] 51)))
      clear T_9 R_9 U_9 V_9 PB10_9 PC10_9 PB11_9 PC11_9 I_59 KW_9
      have P_10 := Lib.hid (RBox.new w9 bz za zn zc)
      clear PB10_10 PB11_10 PC10_10 PC11_10
      have T_11 := Lib.hid (T_10.out.keep (keep_drew _))
      clear T_10
      have R_11 := Lib.hid (R_10.out.keep (keep_drew _))
      clear R_10
      have U_11 := Lib.hid (U_10.out.keep (keep_drew _))
      clear U_10
      have V_11 := Lib.hid (V_10.out.keep (keep_drew _))
      clear V_10
      have I_11 := Lib.hid (I_10.out.keep (keep_drew _))
      clear I_10
      have P_11 := Lib.hid (P_10.out.keep (keep_drew _))
      clear P_10
      have KW_11 := Lib.hid (KW_10.out.trans (keep_drew _))
      clear KW_10
      obtain ⟨cP_11_0, cP_11_1, -, -, -⟩ := id P_11.out
      go_wp2
      go_region_held3 (fun w' => w'.cell? ⟨w9.heap.size, 0, none⟩ = some (.bool bz) ∧ w'.cell? ⟨w9.heap.size, 1, none⟩ = some (.slice za zn zc)) (first | exact ⟨yP_0, yP_1⟩ | exact ⟨zP_0, zP_1⟩ | exact ⟨cP_12_0, cP_12_1⟩ | exact ⟨cP_11_0, cP_11_1⟩ | go_keep)
        (first
          | (go_at_call 43; ((with_reducible refine Calls.mono (RD.out _ _ _ (Ci.cn I_12.out) M_12.out T_12.out) ?_); rintro e wz ⟨u, rfl, hu, kz⟩; obtain ⟨b0, a0, n0, c0, a1, n1, c1, rfl, hcr, hkk, f0, f1, f2, g0, g1, g2, s0, s1, s2⟩ := hu.put (R_12.out.keep kz) (KW_12.out.trans kz) (by omega); have FIN := Lib.hid (show RPost q w (.returned (.agg #[.bool b0, .slice a0 n0 c0, .slice a1 n1 c1])) _ from ⟨_, rfl, hcr, hkk⟩); have YP := (P_12.out.keep kz).other3 (g := w.heap.size + 1 + 1) (by omega) (.bool b0) (.slice a0 n0 c0) (.slice a1 n1 c1); obtain ⟨yP_0, yP_1, -, -, -⟩ := YP; obtain ⟨zP_0, zP_1, -, -, -⟩ := P_12.out.keep kz; clear hcr hkk hu kz))
          | (go_at_call 44; ((with_reducible refine Calls.mono (M3.out _ _ _ U_11.out V_11.out) ?_); rintro e w12 ⟨vM, rfl, hM, k12⟩; have T_12 := Lib.hid (T_11.out.keep k12); have R_12 := Lib.hid (R_11.out.keep k12); have U_12 := Lib.hid (U_11.out.keep k12); have V_12 := Lib.hid (V_11.out.keep k12); have I_12 := Lib.hid (I_11.out.keep k12); have P_12 := Lib.hid (P_11.out.keep k12); have M_12 := Lib.hid hM; clear hM; have KW_12 := Lib.hid (KW_11.out.trans k12); obtain ⟨cP_12_0, cP_12_1, -, -, -⟩ := id P_12.out; clear k12)))
      all_goals
        go_wp2
        refine bodyPost_ret (v := .agg #[.bool b0, .slice a0 n0 c0, .slice a1 n1 c1]) (by simp [results, Tryd.results26, go_sem, s0, s1, s2]) rfl ?_
        exact FIN.out
theorem Nm.dec (n m : Nat) : n = m ∨ ¬ n = m := by omega
theorem qadd_c {w : World} {v u : Value} {p q : Rat} {k : Nat} (h : Ra w v p k) (h' : Ra w u q k) (hk : k < 48) (hk1 : 1 ≤ k) (hT : Tab w) : Calls Tryd.prog 26 #[v, u] w (RPost (p + q) w) := by
  obtain ⟨s, a, n, c, a', n', c', N, D, rfl, hN, hD, rfl⟩ := h.form
  obtain ⟨t, b, m, g, b', m', g', M, E, rfl, hM, hE, rfl⟩ := h'.form
  by_cases hde : dn D = dn E
  · exact add_same hN hD hM hE hk hk1 hT hde
  · exact add_diff hN hD hM hE hk hk1 hT hde
end Go.Proofs.YtnalmjbgkedcoaaDoor
