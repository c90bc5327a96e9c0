/- Carried over from another seat by program (portn.py). -/
import Derived.Test.YtnalmjbgkedcoaaDoorRR4
import Derived.Deep.DeepCutAuto
namespace Go.Proofs.YtnalmjbgkedcoaaDoor
open Go.RowKit
set_option linter.unusedVariables false
theorem Cr.store {w0 v : World} {g : Nat} {q : Rat} {b : Bool} {a a' : Option Addr} {n c n' c' : Nat} {u0 u1 u2 : Value} (hc : Cr v (.agg #[.bool b, .slice a n c, .slice a' n' c']) q) (B : QBox g u0 u1 u2 v) (hg : w0.heap.size ≤ g) (hk : Keep w0 v) :
    QBox g (.bool b) (.slice a n c) (.slice a' n' c') (((v.setCell ⟨g, 0, none⟩ (.bool b)).setCell ⟨g, 1, none⟩ (.slice a n c)).setCell ⟨g, 2, none⟩ (.slice a' n' c')) ∧
    Cr (((v.setCell ⟨g, 0, none⟩ (.bool b)).setCell ⟨g, 1, none⟩ (.slice a n c)).setCell ⟨g, 2, none⟩ (.slice a' n' c')) (.agg #[.bool b, .slice a n c, .slice a' n' c']) q ∧
    Keep w0 (((v.setCell ⟨g, 0, none⟩ (.bool b)).setCell ⟨g, 1, none⟩ (.slice a n c)).setCell ⟨g, 2, none⟩ (.slice a' n' c')) := by
  obtain ⟨h1, h2, h3⟩ := hc.rds
  obtain ⟨s1, s2, s3, s4, s5⟩ := B.store hk hg (.bool b) (.slice a n c) (.slice a' n' c')
  refine ⟨⟨?_, ?_, s5, by simpa using B.f0, by simpa using B.f1, by simpa using B.f2, ?_⟩, Cr.of h1 (s2 _ _ _ _ h2) (s2 _ _ _ _ h3), s1⟩
  · rw [World.cell?_setCell_other _ _ _ _ (by simp), World.cell?_setCell_other _ _ _ _ (by simp)]; exact s3
  · rw [World.cell?_setCell_other _ _ _ _ (by simp)]; exact s4
  · intro i x
    match i with
    | 0 => rw [World.cell?_setCell_other _ _ _ _ (by simp), World.cell?_setCell_other _ _ _ _ (by simp), s3]; simp
    | 1 => rw [World.cell?_setCell_other _ _ _ _ (by simp), s4]; simp
    | 2 => rw [s5]; simp
    | i + 3 =>
      rw [World.cell?_setCell_other _ _ _ _ (by simp), World.cell?_setCell_other _ _ _ _ (by simp), World.cell?_setCell_other _ _ _ _ (by simp)]
      exact B.no (i + 3) x
theorem QBox.set0 {w : World} {g : Nat} {u0 u1 u2 : Value} (B : QBox g u0 u1 u2 w) (b : Bool) : QBox g (.bool b) u1 u2 (w.setCell ⟨g, 0, none⟩ (.bool b)) := by
  refine ⟨World.cell?_setCell_same _ _ _ B.c0, ?_, ?_, by simpa using B.f0, by simpa using B.f1, by simpa using B.f2, ?_⟩
  · rw [World.cell?_setCell_other _ _ _ _ (by simp)]; exact B.c1
  · rw [World.cell?_setCell_other _ _ _ _ (by simp)]; exact B.c2
  · intro i x
    match i with
    | 0 => rw [World.cell?_setCell_same _ _ _ B.c0]; simp
    | i + 1 => rw [World.cell?_setCell_other _ _ _ _ (by simp)]; exact B.no (i + 1) x
theorem QBox.other1 {g g' : Nat} {u0 u1 u2 : Value} {w : World} (h : QBox g' u0 u1 u2 w) (hne : g ≠ g') (u : Value) : QBox g' u0 u1 u2 (w.setCell ⟨g, 0, none⟩ u) := by
  have e : ∀ j, (w.setCell ⟨g, 0, none⟩ u).cell? ⟨g', j, none⟩ = w.cell? ⟨g', j, none⟩ := fun j => by
    rw [World.cell?_setCell_other _ _ _ _ (by simp)]
  have f : ∀ j, (w.setCell ⟨g, 0, none⟩ u).frozen? ⟨g', j, none⟩ = w.frozen? ⟨g', j, none⟩ := fun j => by simp
  exact ⟨(e 0).trans h.c0, (e 1).trans h.c1, (e 2).trans h.c2, (f 0).trans h.f0, (f 1).trans h.f1, (f 2).trans h.f2, fun i y => by rw [e i]; exact h.no i y⟩
set_option maxHeartbeats 800000 in
theorem rneg_c {w : World} {v : Value} {q : Rat} {k : Nat} (h : Ra w v q k) (hk : k ≤ 500000) (hk1 : 1 ≤ k) : Calls Tryd.prog 13 #[v] w (RPost (-q) w) := by
  obtain ⟨s, a, n, c, a', n', c', N, D, rfl, hN, hD, hq⟩ := h.form
  obtain ⟨B_0, R_0, KW_0⟩ := op1 w s a n c a' n' c'
  obtain ⟨B_1, R_1, KW_1⟩ := op1 w (!s) a n c a' n' c'
  have X_1 : Hid (Ra _ (.agg #[.bool (!s), .slice a n c, .slice a' n' c']) (-q) k) := Lib.hid ⟨_, _, _, _, _, rfl, hN.keep KW_1.out, hD.keep KW_1.out, by rw [rv_neg, hq]⟩
  have CN := Lib.hid (rcanon_c X_1.out hk hk1)
  obtain ⟨p, hp⟩ : ∃ p, -q = p := ⟨_, rfl⟩
  rw [hp] at CN ⊢
  clear h hN hD hq X_1 hp
  go_enter Tryd.func13, Tryd.ntmps13
  obtain ⟨b0, b1, b2, d0, d1, d2, _⟩ := id B_0.out
  obtain ⟨c0, c1, c2, _, _, _, _⟩ := id B_1.out
  go_wp2_with fail
  refine Calls.mono CN.out ?_
  rintro e wz ⟨u, rfl, hu, kz⟩
  obtain ⟨b9, a0, n0, c9, a1, n1, c8, rfl, hcr, hkk, f0, f1, f2, g0, g1, g2, s0, s1, s2⟩ := hu.put (R_1.out.keep kz) (KW_1.out.trans kz) (by omega)
  have FIN := Lib.hid (show RPost p w (.returned (.agg #[.bool b9, .slice a0 n0 c9, .slice a1 n1 c8])) _ from ⟨_, rfl, hcr, hkk⟩)
  clear hcr hkk hu kz b0 b1 b2 c0 c1 c2
  go_wp2
  refine bodyPost_ret (v := .agg #[.bool b9, .slice a0 n0 c9, .slice a1 n1 c8]) (by simp [results, Tryd.results13, go_sem, s0, s1, s2]) rfl ?_
  exact FIN.out
theorem PBox.post {w0 v : World} {lo : Nat} {N : Nat} {s : Bool} {a : Option Addr} {n c : Nat} (hc : Cn v (.slice a n c) N) (hlo : lo ≤ v.heap.size) (hk : Keep w0 v) :
    PBox w0 lo s N (.pointer (some ⟨v.heap.size, 0, none⟩)) (v.alloc (.cells #[.bool s, .slice a n c] 51)) :=
  ⟨_, a, n, c, rfl, hlo, RBox.new v s a n c, hc.keep ((Keep.refl _).alloc _), hk.alloc _⟩
theorem PBox.pre {w0 v : World} {lo g : Nat} {N : Nat} {s : Bool} {a : Option Addr} {n c : Nat} {u0 u1 : Value} (hc : Cn v (.slice a n c) N) (B : RBox g u0 u1 v) (hlo : lo ≤ g) (hg : w0.heap.size ≤ g) (hk : Keep w0 v) :
    PBox w0 lo s N (.pointer (some ⟨g, 0, none⟩)) ((v.setCell ⟨g, 0, none⟩ (.bool s)).setCell ⟨g, 1, none⟩ (.slice a n c)) := by
  obtain ⟨_, _, _, e, h1⟩ := hc
  cases e
  obtain ⟨s1, s2, s3, s4⟩ := B.store hk hg (.bool s) (.slice a n c)
  exact ⟨g, a, n, c, rfl, hlo, B.set _ _ _ _, ⟨_, _, _, rfl, s2 _ _ _ _ h1⟩, s1⟩
set_option maxHeartbeats 1600000 in
theorem rqadd_c {w : World} {v u : Value} {p q : Rat} {k : Nat} (h : Ra w v p k) (h' : Ra w u q k) (hk : k ≤ 100000) (hk1 : 1 ≤ k) : Calls Tryd.prog 30 #[v, u] w (RPost (p + q) w) := by
  obtain ⟨s, a, n, c, a', n', c', N, D, rfl, hN, hD, hp⟩ := h.form
  obtain ⟨t, b, m, g, b', m', g', M, E, rfl, hM, hE, hq⟩ := h'.form
  obtain ⟨B_0, C_0, R_0, KW_0⟩ := op2 w s a n c a' n' c' t b m g b' m' g'
  have X_0 := Lib.hid (hN.keep KW_0.out)
  have X'_0 := Lib.hid (hD.keep KW_0.out)
  have Y_0 := Lib.hid (hM.keep KW_0.out)
  have Y'_0 := Lib.hid (hE.keep KW_0.out)
  have lD := dn_lt' hD.lt hk1
  have lE := dn_lt' hE.lt hk1
  have lN := hN.lt
  have lM := hM.lt
  have O1 := Lib.hid (fun w1 (h : Nm w1 (.slice a' n' c') D k) => one_c h (by omega) hk1)
  have O2 := Lib.hid (fun w1 (h : Nm w1 (.slice b' m' g') E k) => one_c h (by omega) hk1)
  have M1 := Lib.hid (fun w1 v (h : Nm w1 (.slice a n c) N k) (h' : Nm w1 v (dn E) k) => rmul_n h h' (by omega))
  have M2 := Lib.hid (fun w1 v (h : Nm w1 (.slice b m g) M k) (h' : Nm w1 v (dn D) k) => rmul_n h h' (by omega))
  have M3 := Lib.hid (fun w1 u v (h : Nm w1 u (dn D) k) (h' : Nm w1 v (dn E) k) => rmul_n h h' (by omega))
  have l1 := lt_mul_pow lN lE
  have l2 := lt_mul_pow lM lD
  have l3 := lt_mul_pow lD lE
  have IA := Lib.hid (fun w1 x y (h : Cn w1 x (N * dn E)) (h' : Cn w1 y (M * dn D)) => radd_z (w := w1) (v := .agg #[.bool s, x]) (u := .agg #[.bool t, y]) (k := k + k) (k' := k + k) ⟨s, N * dn E, rfl, _, rfl, h.nm l1⟩ ⟨t, M * dn D, rfl, _, rfl, h'.nm l2⟩ (by omega) (by omega))
  have hzl := iv_add_abs s t l1 l2
  have hq0 := rv_add s t N M D E
  have hde0 : dn D * dn E ≠ 0 := Nat.mul_ne_zero (dn_ne D) (dn_ne E)
  rw [mkRat_rv _ _ hde0, hp, hq] at hq0
  obtain ⟨r, hr⟩ : ∃ r, p + q = r := ⟨_, rfl⟩
  rw [hr] at hq0 ⊢
  obtain ⟨z, hz⟩ : ∃ z, iv s (N * dn E) + iv t (M * dn D) = z := ⟨_, rfl⟩
  rw [hz] at IA hzl hq0
  have QU := Lib.hid (fun w1 x u (hx : Cn w1 x z.natAbs) (hu : Cn w1 u (dn D * dn E)) => quot_c (decide (z < 0)) (hx.nm hzl) ((hu.nm l3).up (Nat.le_succ _)) hde0 (by omega))
  rw [← hq0] at QU
  clear h h' hN hD hM hE hp hq lD lE lN lM l1 l2 l3 hr hq0 hz hzl hde0
  go_enter Tryd.func30, Tryd.ntmps30
  go_upto_region 1 with fail
  go_cut [5] (fun sv wc => PBox (((w.alloc (.cells #[.bool s, .slice a n c, .slice a' n' c'] 25)).alloc (.cells #[.bool t, .slice b m g, .slice b' m' g'] 25)).alloc (.cells #[.bool false, .slice none 0 0, .slice none 0 0] 25)) 0 s (N * dn E) sv wc)
  case first =>
    have SK : Hid (∀ wk : World, Keep ((((w.alloc (.cells #[.bool s, .slice a n c, .slice a' n' c'] 25)).alloc (.cells #[.bool t, .slice b m g, .slice b' m' g'] 25)).alloc (.cells #[.bool false, .slice none 0 0, .slice none 0 0] 25))) wk → wk.cell? ⟨w.heap.size, 0, none⟩ = some (.bool s) ∧ wk.cell? ⟨w.heap.size, 1, none⟩ = some (.slice a n c) ∧ wk.cell? ⟨w.heap.size, 2, none⟩ = some (.slice a' n' c') ∧ wk.cell? ⟨w.heap.size + 1, 0, none⟩ = some (.bool t) ∧ wk.cell? ⟨w.heap.size + 1, 1, none⟩ = some (.slice b m g) ∧ wk.cell? ⟨w.heap.size + 1, 2, none⟩ = some (.slice b' m' g')) := Lib.hid (fun wk h => ⟨(B_0.out.keep h).c0, (B_0.out.keep h).c1, (B_0.out.keep h).c2, (C_0.out.keep h).c0, (C_0.out.keep h).c1, (C_0.out.keep h).c2⟩)
    have kS_0 : Keep ((((w.alloc (.cells #[.bool s, .slice a n c, .slice a' n' c'] 25)).alloc (.cells #[.bool t, .slice b m g, .slice b' m' g'] 25)).alloc (.cells #[.bool false, .slice none 0 0, .slice none 0 0] 25))) ((((w.alloc (.cells #[.bool s, .slice a n c, .slice a' n' c'] 25)).alloc (.cells #[.bool t, .slice b m g, .slice b' m' g'] 25)).alloc (.cells #[.bool false, .slice none 0 0, .slice none 0 0] 25)).drew) := (Keep.refl _).drew
    have kS_1 : Keep ((((w.alloc (.cells #[.bool s, .slice a n c, .slice a' n' c'] 25)).alloc (.cells #[.bool t, .slice b m g, .slice b' m' g'] 25)).alloc (.cells #[.bool false, .slice none 0 0, .slice none 0 0] 25))) (((((w.alloc (.cells #[.bool s, .slice a n c, .slice a' n' c'] 25)).alloc (.cells #[.bool t, .slice b m g, .slice b' m' g'] 25)).alloc (.cells #[.bool false, .slice none 0 0, .slice none 0 0] 25)).alloc (.cells #[.bool false, .slice none 0 0] 51)).drew) := ((Keep.alloc (Keep.refl _) _)).drew
    obtain ⟨cz_0, cz_1, cz_2, cz_3, cz_4, cz_5⟩ := SK.out _ kS_0
    go_wp2
    go_region_held3 (fun w' => w'.cell? ⟨w.heap.size, 0, none⟩ = some (.bool s) ∧ w'.cell? ⟨w.heap.size, 1, none⟩ = some (.slice a n c) ∧ w'.cell? ⟨w.heap.size, 2, none⟩ = some (.slice a' n' c') ∧ w'.cell? ⟨w.heap.size + 1, 0, none⟩ = some (.bool t) ∧ w'.cell? ⟨w.heap.size + 1, 1, none⟩ = some (.slice b m g) ∧ w'.cell? ⟨w.heap.size + 1, 2, none⟩ = some (.slice b' m' g')) (first | with_reducible exact SK.out _ kS_0 | with_reducible exact SK.out _ kS_1 | with_reducible exact SK.out _ hW_1 | with_reducible exact SK.out _ (Keep.alloc hW_1 _) | with_reducible exact SK.out _ hW_2 | with_reducible exact SK.out _ (Keep.alloc hW_2 _) | (refine SK.out _ ?_; (repeat' (first | exact Keep.refl _ | assumption | refine Keep.alloc ?_ _ | refine Keep.drew ?_ | refine keep_set ?_ (by first | exact Nat.le_refl _ | assumption | (simp <;> omega)) _ | (refine Keep.trans ?_ (by assumption))))) | go_keep)
      (first
        | (go_at_call 55; ((with_reducible refine Calls.mono (O2.out _ (Y'_0.out.keep kS_0)) ?_); rintro e v1 ⟨x2, rfl, hV, k1⟩; (have hW_1 : Keep ((((w.alloc (.cells #[.bool s, .slice a n c, .slice a' n' c'] 25)).alloc (.cells #[.bool t, .slice b m g, .slice b' m' g'] 25)).alloc (.cells #[.bool false, .slice none 0 0, .slice none 0 0] 25))) v1 := Keep.trans kS_0 k1); (have V_r := Lib.hid hV); clear hV; (have mk_1_0 := trivial)))
        | (go_at_call 55; ((with_reducible refine Calls.mono (O2.out _ (Y'_0.out.keep kS_1)) ?_); rintro e v1 ⟨x2, rfl, hV, k1⟩; (have hW_1 : Keep ((((w.alloc (.cells #[.bool s, .slice a n c, .slice a' n' c'] 25)).alloc (.cells #[.bool t, .slice b m g, .slice b' m' g'] 25)).alloc (.cells #[.bool false, .slice none 0 0, .slice none 0 0] 25))) v1 := Keep.trans kS_1 k1); (have V_r := Lib.hid hV); clear hV; (have mk_1_1 := trivial); (have NB_1 := Lib.hid (((RBox.new (((w.alloc (.cells #[.bool s, .slice a n c, .slice a' n' c'] 25)).alloc (.cells #[.bool t, .slice b m g, .slice b' m' g'] 25)).alloc (.cells #[.bool false, .slice none 0 0, .slice none 0 0] 25)) false none 0 0).at (g' := w.heap.size + 1 + 1 + 1) (by first | rfl | simp)).keep (show Keep (((((w.alloc (.cells #[.bool s, .slice a n c, .slice a' n' c'] 25)).alloc (.cells #[.bool t, .slice b m g, .slice b' m' g'] 25)).alloc (.cells #[.bool false, .slice none 0 0, .slice none 0 0] 25)).alloc (.cells #[.bool false, .slice none 0 0] 51))) v1 from Keep.trans (Keep.drew (Keep.refl _)) k1)))))
        | (go_at_call 54; ((have mark := mk_1_0); (with_reducible refine Calls.mono (M1.out _ _ (X_0.out.keep hW_1) (V_r.out.keep (Keep.refl _))) ?_); rintro e v2 ⟨x3, rfl, hP, k2⟩; (have hW_2 : Keep ((((w.alloc (.cells #[.bool s, .slice a n c, .slice a' n' c'] 25)).alloc (.cells #[.bool t, .slice b m g, .slice b' m' g'] 25)).alloc (.cells #[.bool false, .slice none 0 0, .slice none 0 0] 25))) v2 := Keep.trans hW_1 k2); (have hc_1_2 : Keep v1 v2 := Keep.trans (Keep.refl _) k2); (have P_r := Lib.hid hP); clear hP; (have mk_2_00 := trivial); obtain ⟨za, zn, zc, rfl, -⟩ := id P_r.out; (have hlo : 0 ≤ v2.heap.size := Nat.zero_le _); (have FIN := Lib.hid (PBox.post (s := s) P_r.out hlo hW_2))))
        | (go_at_call 54; ((have mark := mk_1_0); (with_reducible refine Calls.mono (M1.out _ _ (X_0.out.keep (Keep.alloc hW_1 _)) (V_r.out.keep (Keep.alloc (Keep.refl _) _))) ?_); rintro e v2 ⟨x3, rfl, hP, k2⟩; (have hW_2 : Keep ((((w.alloc (.cells #[.bool s, .slice a n c, .slice a' n' c'] 25)).alloc (.cells #[.bool t, .slice b m g, .slice b' m' g'] 25)).alloc (.cells #[.bool false, .slice none 0 0, .slice none 0 0] 25))) v2 := Keep.trans (Keep.alloc hW_1 _) k2); (have hc_1_2 : Keep v1 v2 := Keep.trans (Keep.alloc (Keep.refl _) _) k2); (have P_r := Lib.hid hP); clear hP; (have mk_2_01 := trivial); (have NB_2 := Lib.hid (((RBox.new v1 false none 0 0).at (g' := v1.heap.size) (by first | rfl | simp)).keep (show Keep ((v1.alloc (.cells #[.bool false, .slice none 0 0] 51))) v2 from Keep.trans (Keep.refl _) k2))); obtain ⟨za, zn, zc, rfl, -⟩ := id P_r.out; (have hlo : 0 ≤ v1.heap.size := Nat.zero_le _); (have hgw : ((((w.alloc (.cells #[.bool s, .slice a n c, .slice a' n' c'] 25)).alloc (.cells #[.bool t, .slice b m g, .slice b' m' g'] 25)).alloc (.cells #[.bool false, .slice none 0 0, .slice none 0 0] 25))).heap.size ≤ v1.heap.size := (by have h9 := Below.size hW_1; exact h9)); (obtain ⟨z0, z1, f0, f1, -⟩ := id NB_2.out); (have FIN := Lib.hid (PBox.pre (s := s) P_r.out NB_2.out hlo hgw hW_2))))
        | (go_at_call 54; ((have mark := mk_1_1); (with_reducible refine Calls.mono (M1.out _ _ (X_0.out.keep hW_1) (V_r.out.keep (Keep.refl _))) ?_); rintro e v2 ⟨x3, rfl, hP, k2⟩; (have hW_2 : Keep ((((w.alloc (.cells #[.bool s, .slice a n c, .slice a' n' c'] 25)).alloc (.cells #[.bool t, .slice b m g, .slice b' m' g'] 25)).alloc (.cells #[.bool false, .slice none 0 0, .slice none 0 0] 25))) v2 := Keep.trans hW_1 k2); (have hc_1_2 : Keep v1 v2 := Keep.trans (Keep.refl _) k2); (have P_r := Lib.hid hP); clear hP; (have mk_2_10 := trivial); (have NB_2 := Lib.hid (NB_1.out.keep (hc_1_2))); obtain ⟨za, zn, zc, rfl, -⟩ := id P_r.out; (have hlo : 0 ≤ w.heap.size + 1 + 1 + 1 := Nat.zero_le _); (have hgw : ((((w.alloc (.cells #[.bool s, .slice a n c, .slice a' n' c'] 25)).alloc (.cells #[.bool t, .slice b m g, .slice b' m' g'] 25)).alloc (.cells #[.bool false, .slice none 0 0, .slice none 0 0] 25))).heap.size ≤ w.heap.size + 1 + 1 + 1 := (by simp)); (obtain ⟨z0, z1, f0, f1, -⟩ := id NB_2.out); (have FIN := Lib.hid (PBox.pre (s := s) P_r.out NB_2.out hlo hgw hW_2)))))
    all_goals (go_wp2_with fail; go_meet; exact FIN.out)
  case rest =>
    obtain ⟨gP, aP, nP, cP, rfl, hloP, hbx, hcr, kx⟩ := hcut
    clear hloP
    obtain ⟨wx5, rfl⟩ : ∃ x : World, x = wc := ⟨_, rfl⟩
    have X_1 := Lib.hid (X_0.out.keep kx)
    have X'_1 := Lib.hid (X'_0.out.keep kx)
    have Y_1 := Lib.hid (Y_0.out.keep kx)
    have Y'_1 := Lib.hid (Y'_0.out.keep kx)
    have B_1 := Lib.hid (B_0.out.keep kx)
    have C_1 := Lib.hid (C_0.out.keep kx)
    have R_1 := Lib.hid (R_0.out.keep kx)
    have P_1 := Lib.hid hbx
    have CP_1 := Lib.hid hcr
    have KW_1 := Lib.hid (KW_0.out.trans kx)
    clear kx X_0 X'_0 Y_0 Y'_0 B_0 C_0 R_0 hbx hcr KW_0
    go_upto_region 2 with fail
    go_cut [6] (fun sv wc => PBox wx5 0 t (M * dn D) sv wc)
    case first =>
      have SK : Hid (∀ wk : World, Keep (wx5) wk → wk.cell? ⟨w.heap.size, 0, none⟩ = some (.bool s) ∧ wk.cell? ⟨w.heap.size, 1, none⟩ = some (.slice a n c) ∧ wk.cell? ⟨w.heap.size, 2, none⟩ = some (.slice a' n' c') ∧ wk.cell? ⟨w.heap.size + 1, 0, none⟩ = some (.bool t) ∧ wk.cell? ⟨w.heap.size + 1, 1, none⟩ = some (.slice b m g) ∧ wk.cell? ⟨w.heap.size + 1, 2, none⟩ = some (.slice b' m' g')) := Lib.hid (fun wk h => ⟨(B_1.out.keep h).c0, (B_1.out.keep h).c1, (B_1.out.keep h).c2, (C_1.out.keep h).c0, (C_1.out.keep h).c1, (C_1.out.keep h).c2⟩)
      have kS_0 : Keep (wx5) (wx5.drew) := (Keep.refl _).drew
      have kS_1 : Keep (wx5) ((wx5.alloc (.cells #[.bool false, .slice none 0 0] 51)).drew) := ((Keep.alloc (Keep.refl _) _)).drew
      obtain ⟨cz_0, cz_1, cz_2, cz_3, cz_4, cz_5⟩ := SK.out _ kS_0
      go_wp2
      go_region_held3 (fun w' => w'.cell? ⟨w.heap.size, 0, none⟩ = some (.bool s) ∧ w'.cell? ⟨w.heap.size, 1, none⟩ = some (.slice a n c) ∧ w'.cell? ⟨w.heap.size, 2, none⟩ = some (.slice a' n' c') ∧ w'.cell? ⟨w.heap.size + 1, 0, none⟩ = some (.bool t) ∧ w'.cell? ⟨w.heap.size + 1, 1, none⟩ = some (.slice b m g) ∧ w'.cell? ⟨w.heap.size + 1, 2, none⟩ = some (.slice b' m' g')) (first | with_reducible exact SK.out _ kS_0 | with_reducible exact SK.out _ kS_1 | with_reducible exact SK.out _ hW_1 | with_reducible exact SK.out _ (Keep.alloc hW_1 _) | with_reducible exact SK.out _ hW_2 | with_reducible exact SK.out _ (Keep.alloc hW_2 _) | (refine SK.out _ ?_; (repeat' (first | exact Keep.refl _ | assumption | refine Keep.alloc ?_ _ | refine Keep.drew ?_ | refine keep_set ?_ (by first | exact Nat.le_refl _ | assumption | (simp <;> omega)) _ | (refine Keep.trans ?_ (by assumption))))) | go_keep)
        (first
          | (go_at_call 55; ((with_reducible refine Calls.mono (O1.out _ (X'_1.out.keep kS_0)) ?_); rintro e v1 ⟨x2, rfl, hV, k1⟩; (have hW_1 : Keep (wx5) v1 := Keep.trans kS_0 k1); (have V_r := Lib.hid hV); clear hV; (have mk_1_0 := trivial)))
          | (go_at_call 55; ((with_reducible refine Calls.mono (O1.out _ (X'_1.out.keep kS_1)) ?_); rintro e v1 ⟨x2, rfl, hV, k1⟩; (have hW_1 : Keep (wx5) v1 := Keep.trans kS_1 k1); (have V_r := Lib.hid hV); clear hV; (have mk_1_1 := trivial); (have NB_1 := Lib.hid (((RBox.new wx5 false none 0 0).at (g' := wx5.heap.size) (by first | rfl | simp)).keep (show Keep ((wx5.alloc (.cells #[.bool false, .slice none 0 0] 51))) v1 from Keep.trans (Keep.drew (Keep.refl _)) k1)))))
          | (go_at_call 54; ((have mark := mk_1_0); (with_reducible refine Calls.mono (M2.out _ _ (Y_1.out.keep hW_1) (V_r.out.keep (Keep.refl _))) ?_); rintro e v2 ⟨x3, rfl, hP, k2⟩; (have hW_2 : Keep (wx5) v2 := Keep.trans hW_1 k2); (have hc_1_2 : Keep v1 v2 := Keep.trans (Keep.refl _) k2); (have P_r := Lib.hid hP); clear hP; (have mk_2_00 := trivial); obtain ⟨za, zn, zc, rfl, -⟩ := id P_r.out; (have hlo : 0 ≤ v2.heap.size := Nat.zero_le _); (have FIN := Lib.hid (PBox.post (s := t) P_r.out hlo hW_2))))
          | (go_at_call 54; ((have mark := mk_1_0); (with_reducible refine Calls.mono (M2.out _ _ (Y_1.out.keep (Keep.alloc hW_1 _)) (V_r.out.keep (Keep.alloc (Keep.refl _) _))) ?_); rintro e v2 ⟨x3, rfl, hP, k2⟩; (have hW_2 : Keep (wx5) v2 := Keep.trans (Keep.alloc hW_1 _) k2); (have hc_1_2 : Keep v1 v2 := Keep.trans (Keep.alloc (Keep.refl _) _) k2); (have P_r := Lib.hid hP); clear hP; (have mk_2_01 := trivial); (have NB_2 := Lib.hid (((RBox.new v1 false none 0 0).at (g' := v1.heap.size) (by first | rfl | simp)).keep (show Keep ((v1.alloc (.cells #[.bool false, .slice none 0 0] 51))) v2 from Keep.trans (Keep.refl _) k2))); obtain ⟨za, zn, zc, rfl, -⟩ := id P_r.out; (have hlo : 0 ≤ v1.heap.size := Nat.zero_le _); (have hgw : (wx5).heap.size ≤ v1.heap.size := (by have h9 := Below.size hW_1; exact h9)); (obtain ⟨z0, z1, f0, f1, -⟩ := id NB_2.out); (have FIN := Lib.hid (PBox.pre (s := t) P_r.out NB_2.out hlo hgw hW_2))))
          | (go_at_call 54; ((have mark := mk_1_1); (with_reducible refine Calls.mono (M2.out _ _ (Y_1.out.keep hW_1) (V_r.out.keep (Keep.refl _))) ?_); rintro e v2 ⟨x3, rfl, hP, k2⟩; (have hW_2 : Keep (wx5) v2 := Keep.trans hW_1 k2); (have hc_1_2 : Keep v1 v2 := Keep.trans (Keep.refl _) k2); (have P_r := Lib.hid hP); clear hP; (have mk_2_10 := trivial); (have NB_2 := Lib.hid (NB_1.out.keep (hc_1_2))); obtain ⟨za, zn, zc, rfl, -⟩ := id P_r.out; (have hlo : 0 ≤ wx5.heap.size := Nat.zero_le _); (have hgw : (wx5).heap.size ≤ wx5.heap.size := (by simp)); (obtain ⟨z0, z1, f0, f1, -⟩ := id NB_2.out); (have FIN := Lib.hid (PBox.pre (s := t) P_r.out NB_2.out hlo hgw hW_2)))))
      all_goals (go_wp2_with fail; go_meet; exact FIN.out)
    case rest =>
      obtain ⟨gQ, aQ, nQ, cQ, rfl, hloQ, hbx, hcr, kx⟩ := hcut
      clear hloQ
      obtain ⟨wx6, rfl⟩ : ∃ x : World, x = wc := ⟨_, rfl⟩
      have X_2 := Lib.hid (X_1.out.keep kx)
      have X'_2 := Lib.hid (X'_1.out.keep kx)
      have Y_2 := Lib.hid (Y_1.out.keep kx)
      have Y'_2 := Lib.hid (Y'_1.out.keep kx)
      have B_2 := Lib.hid (B_1.out.keep kx)
      have C_2 := Lib.hid (C_1.out.keep kx)
      have R_2 := Lib.hid (R_1.out.keep kx)
      have P_2 := Lib.hid (P_1.out.keep kx)
      have CP_2 := Lib.hid (CP_1.out.keep kx)
      have Q_2 := Lib.hid hbx
      have CQ_2 := Lib.hid hcr
      have KW_2 := Lib.hid (KW_1.out.trans kx)
      clear kx X_1 X'_1 Y_1 Y'_1 B_1 C_1 R_1 P_1 CP_1 hbx hcr KW_1
      obtain ⟨B_c0, B_c1, B_c2, -, -, -, -⟩ := id B_2.out
      obtain ⟨C_c0, C_c1, C_c2, -, -, -, -⟩ := id C_2.out
      obtain ⟨R_c0, R_c1, R_c2, -, -, -, -⟩ := id R_2.out
      obtain ⟨P_c0, P_c1, -, -, -⟩ := id P_2.out
      obtain ⟨Q_c0, Q_c1, -, -, -⟩ := id Q_2.out
      go_wp2_with fail
      refine Calls.mono (IA.out _ _ _ CP_2.out CQ_2.out) ?_
      rintro e w3 ⟨vI, rfl, hI, k3⟩
      clear B_c0 B_c1 B_c2 C_c0 C_c1 C_c2 R_c0 R_c1 R_c2 P_c0 P_c1 Q_c0 Q_c1
      have X'_3 := Lib.hid (X'_2.out.keep k3)
      have Y'_3 := Lib.hid (Y'_2.out.keep k3)
      have B_3 := Lib.hid (B_2.out.keep k3)
      have C_3 := Lib.hid (C_2.out.keep k3)
      have R_3 := Lib.hid (R_2.out.keep k3)
      have I_3 := Lib.hid hI
      have KW_3 := Lib.hid (KW_2.out.trans k3)
      clear k3 X_2 Y_2 P_2 Q_2 CP_2 CQ_2 X'_2 Y'_2 B_2 C_2 R_2 hI KW_2
      obtain ⟨za, zn, zc, rfl, _, _⟩ := I_3.out.form'
      obtain ⟨bz, hbz⟩ : ∃ b, decide (z < 0) = b := ⟨_, rfl⟩
      rw [hbz] at QU ⊢
      have I_53 := Lib.hid (I_3.out)
      rw [hbz] at I_53
      clear hbz
      have hlt9 : w.heap.size + 1 + 1 < w3.heap.size := (R_3.out).lt
      have X'_4 := Lib.hid (X'_3.out.keep ((Keep.refl _).alloc (.cells #[.bool bz, .slice za zn zc] 51)))
      have Y'_4 := Lib.hid (Y'_3.out.keep ((Keep.refl _).alloc (.cells #[.bool bz, .slice za zn zc] 51)))
      have B_4 := Lib.hid (B_3.out.keep ((Keep.refl _).alloc (.cells #[.bool bz, .slice za zn zc] 51)))
      have C_4 := Lib.hid (C_3.out.keep ((Keep.refl _).alloc (.cells #[.bool bz, .slice za zn zc] 51)))
      have R_4 := Lib.hid (R_3.out.keep ((Keep.refl _).alloc (.cells #[.bool bz, .slice za zn zc] 51)))
      have I_4 := Lib.hid (I_53.out.keep ((Keep.refl _).alloc (.cells #[.bool bz, .slice za zn zc] 51)))
      have KW_4 := Lib.hid (KW_3.out.trans ((Keep.refl _).alloc (.cells #[.bool bz, .slice za zn zc] 51)))
      clear X'_3 Y'_3 B_3 C_3 R_3 I_53 KW_3
      have S_4 := Lib.hid (RBox.new w3 bz za zn zc)
      obtain ⟨oB_0, oB_1, oB_2, -, -, -, -⟩ := id B_4.out
      obtain ⟨oC_0, oC_1, oC_2, -, -, -, -⟩ := id C_4.out
      obtain ⟨oR_0, oR_1, oR_2, -, -, -, -⟩ := id R_4.out
      obtain ⟨oS_0, oS_1, -, -, -⟩ := id S_4.out
      have X'_5 := Lib.hid (X'_4.out.keep (keep_drew _))
      clear X'_4
      have Y'_5 := Lib.hid (Y'_4.out.keep (keep_drew _))
      clear Y'_4
      have B_5 := Lib.hid (B_4.out.keep (keep_drew _))
      clear B_4
      have C_5 := Lib.hid (C_4.out.keep (keep_drew _))
      clear C_4
      have R_5 := Lib.hid (R_4.out.keep (keep_drew _))
      clear R_4
      have I_5 := Lib.hid (I_4.out.keep (keep_drew _))
      clear I_4
      have S_5 := Lib.hid (S_4.out.keep (keep_drew _))
      clear S_4
      have KW_5 := Lib.hid (KW_4.out.trans (keep_drew _))
      clear KW_4
      obtain ⟨cS_5_0, cS_5_1, -, -, -⟩ := id S_5.out
      obtain ⟨cB_5_0, cB_5_1, cB_5_2, -, -, -, -⟩ := id B_5.out
      obtain ⟨cC_5_0, cC_5_1, cC_5_2, -, -, -, -⟩ := id C_5.out
      go_wp2
      go_region_held3 (fun w' => w'.cell? ⟨w3.heap.size, 0, none⟩ = some (.bool bz) ∧ w'.cell? ⟨w3.heap.size, 1, none⟩ = some (.slice za zn zc) ∧ w'.cell? ⟨w.heap.size, 0, none⟩ = some (.bool s) ∧ w'.cell? ⟨w.heap.size, 1, none⟩ = some (.slice a n c) ∧ w'.cell? ⟨w.heap.size, 2, none⟩ = some (.slice a' n' c') ∧ w'.cell? ⟨w.heap.size + 1, 0, none⟩ = some (.bool t) ∧ w'.cell? ⟨w.heap.size + 1, 1, none⟩ = some (.slice b m g) ∧ w'.cell? ⟨w.heap.size + 1, 2, none⟩ = some (.slice b' m' g')) (first | exact ⟨yS_0, yS_1, yB_0, yB_1, yB_2, yC_0, yC_1, yC_2⟩ | exact ⟨zS_0, zS_1, zB_0, zB_1, zB_2, zC_0, zC_1, zC_2⟩ | exact ⟨cS_8_0, cS_8_1, cB_8_0, cB_8_1, cB_8_2, cC_8_0, cC_8_1, cC_8_2⟩ | exact ⟨cS_7_0, cS_7_1, cB_7_0, cB_7_1, cB_7_2, cC_7_0, cC_7_1, cC_7_2⟩ | exact ⟨cS_6_0, cS_6_1, cB_6_0, cB_6_1, cB_6_2, cC_6_0, cC_6_1, cC_6_2⟩ | exact ⟨cS_5_0, cS_5_1, cB_5_0, cB_5_1, cB_5_2, cC_5_0, cC_5_1, cC_5_2⟩ | go_keep)
        (first
          | (go_at_call 57; ((with_reducible refine Calls.mono (QU.out _ _ _ (Ci.cn I_8.out) M_8.out) ?_); rintro e wz ⟨u, rfl, hu, kz⟩; obtain ⟨b0, a0, n0, c0, a1, n1, c1, rfl, hcr, hkk, f0, f1, f2, g0, g1, g2, s0, s1, s2⟩ := hu.put (R_8.out.keep kz) (KW_8.out.trans kz) (by omega); have FIN := Lib.hid (show RPost r w (.returned (.agg #[.bool b0, .slice a0 n0 c0, .slice a1 n1 c1])) _ from ⟨_, rfl, hcr, hkk⟩); have YS := (S_8.out.keep kz).other3 (g := w.heap.size + 1 + 1) (by omega) (.bool b0) (.slice a0 n0 c0) (.slice a1 n1 c1); obtain ⟨yS_0, yS_1, -, -, -⟩ := YS; obtain ⟨zS_0, zS_1, -, -, -⟩ := S_8.out.keep kz; have YB := (B_8.out.keep kz).other3 (g := w.heap.size + 1 + 1) (by omega) (.bool b0) (.slice a0 n0 c0) (.slice a1 n1 c1); obtain ⟨yB_0, yB_1, yB_2, -, -, -, -⟩ := YB; obtain ⟨zB_0, zB_1, zB_2, -, -, -, -⟩ := B_8.out.keep kz; have YC := (C_8.out.keep kz).other3 (g := w.heap.size + 1 + 1) (by omega) (.bool b0) (.slice a0 n0 c0) (.slice a1 n1 c1); obtain ⟨yC_0, yC_1, yC_2, -, -, -, -⟩ := YC; obtain ⟨zC_0, zC_1, zC_2, -, -, -, -⟩ := C_8.out.keep kz; clear hcr hkk hu kz))
          | (go_at_call 54; ((with_reducible refine Calls.mono (M3.out _ _ _ U_7.out V_7.out) ?_); rintro e w8 ⟨x4, rfl, hM, k8⟩; have X'_8 := Lib.hid (X'_7.out.keep k8); have Y'_8 := Lib.hid (Y'_7.out.keep k8); have B_8 := Lib.hid (B_7.out.keep k8); have C_8 := Lib.hid (C_7.out.keep k8); have R_8 := Lib.hid (R_7.out.keep k8); have I_8 := Lib.hid (I_7.out.keep k8); have S_8 := Lib.hid (S_7.out.keep k8); have U_8 := Lib.hid (U_7.out.keep k8); have V_8 := Lib.hid (V_7.out.keep k8); have M_8 := Lib.hid hM; clear hM; have KW_8 := Lib.hid (KW_7.out.trans k8); obtain ⟨cS_8_0, cS_8_1, -, -, -⟩ := id S_8.out; obtain ⟨cB_8_0, cB_8_1, cB_8_2, -, -, -, -⟩ := id B_8.out; obtain ⟨cC_8_0, cC_8_1, cC_8_2, -, -, -, -⟩ := id C_8.out; clear k8))
          | (go_at_call_of 55 (Value.slice b' m' g'); ((with_reducible refine Calls.mono (O2.out _ Y'_6.out) ?_); rintro e w7 ⟨x3, rfl, hV, k7⟩; have X'_7 := Lib.hid (X'_6.out.keep k7); have Y'_7 := Lib.hid (Y'_6.out.keep k7); have B_7 := Lib.hid (B_6.out.keep k7); have C_7 := Lib.hid (C_6.out.keep k7); have R_7 := Lib.hid (R_6.out.keep k7); have I_7 := Lib.hid (I_6.out.keep k7); have S_7 := Lib.hid (S_6.out.keep k7); have U_7 := Lib.hid (U_6.out.keep k7); have V_7 := Lib.hid hV; clear hV; have KW_7 := Lib.hid (KW_6.out.trans k7); obtain ⟨cS_7_0, cS_7_1, -, -, -⟩ := id S_7.out; obtain ⟨cB_7_0, cB_7_1, cB_7_2, -, -, -, -⟩ := id B_7.out; obtain ⟨cC_7_0, cC_7_1, cC_7_2, -, -, -, -⟩ := id C_7.out; clear k7))
          | (go_at_call_of 55 (Value.slice a' n' c'); ((with_reducible refine Calls.mono (O1.out _ X'_5.out) ?_); rintro e w6 ⟨x2, rfl, hU, k6⟩; have X'_6 := Lib.hid (X'_5.out.keep k6); have Y'_6 := Lib.hid (Y'_5.out.keep k6); have B_6 := Lib.hid (B_5.out.keep k6); have C_6 := Lib.hid (C_5.out.keep k6); have R_6 := Lib.hid (R_5.out.keep k6); have I_6 := Lib.hid (I_5.out.keep k6); have S_6 := Lib.hid (S_5.out.keep k6); have U_6 := Lib.hid hU; clear hU; have KW_6 := Lib.hid (KW_5.out.trans k6); obtain ⟨cS_6_0, cS_6_1, -, -, -⟩ := id S_6.out; obtain ⟨cB_6_0, cB_6_1, cB_6_2, -, -, -, -⟩ := id B_6.out; obtain ⟨cC_6_0, cC_6_1, cC_6_2, -, -, -, -⟩ := id C_6.out; clear k6)))
      all_goals
        go_wp2
        refine bodyPost_ret (v := .agg #[.bool b0, .slice a0 n0 c0, .slice a1 n1 c1]) (by simp [results, Tryd.results30, go_sem, s0, s1, s2]) rfl ?_
        exact FIN.out
end Go.Proofs.YtnalmjbgkedcoaaDoor
