/- Merged by program from: RR4 RR5 RR6. -/
import Derived.Test.YtcdkehghdhcokaaDoorRM
import Derived.Test.YtcdkehghdhcokaaDoorRR3
import Derived.Deep.DeepCutAuto
namespace Go.Proofs.YtcdkehghdhcokaaDoor
open Go.RowKit
set_option linter.unusedVariables false
set_option maxHeartbeats 800000 in
theorem rcanon_c {w : World} {v : Value} {q0 : Rat} {k : Nat} (h : Ra w v q0 k) (hk : k ≤ 500000) (hk1 : 1 ≤ k) : Calls Tryd.prog 35 #[v] w (RPost (q0) w) := by
  obtain ⟨s, a, n, c, a', n', c', N, D, rfl, hN, hD, rfl⟩ := h.form
  obtain ⟨B_0, R_0, KW_0⟩ := op1 w s a n c a' n' c'
  have X_0 := Lib.hid (hN.keep KW_0.out)
  have Y_0 := Lib.hid (hD.keep KW_0.out)
  have ON := Lib.hid (fun w1 (h : Nm w1 (.slice a' n' c') D k) => one_c h (by omega) hk1)
  have QU := Lib.hid (fun w1 u (h : Nm w1 (.slice a n c) N k) (h' : Nm w1 u (dn D) k) => quot_c s h h' (dn_ne D) hk)
  rw [rv_dn] at QU
  obtain ⟨q, hq⟩ : ∃ q, rv s N D = q := ⟨_, rfl⟩
  rw [hq] at QU ⊢
  clear h hN hD hq
  go_enter Tryd.func35, Tryd.ntmps35
  have X_1 := Lib.hid (X_0.out.keep (keep_drew _))
  clear X_0
  have Y_1 := Lib.hid (Y_0.out.keep (keep_drew _))
  clear Y_0
  have B_1 := Lib.hid (B_0.out.keep (keep_drew _))
  clear B_0
  have R_1 := Lib.hid (R_0.out.keep (keep_drew _))
  clear R_0
  have KW_1 := Lib.hid (KW_0.out.trans (keep_drew _))
  clear KW_0
  obtain ⟨cB_1_0, cB_1_1, cB_1_2, -, -, -, -⟩ := id B_1.out
  go_wp2
  go_region_held3 (fun w' => w'.cell? ⟨w.heap.size, 0, none⟩ = some (.bool s) ∧ w'.cell? ⟨w.heap.size, 1, none⟩ = some (.slice a n c) ∧ w'.cell? ⟨w.heap.size, 2, none⟩ = some (.slice a' n' c')) (first | exact ⟨yB_0, yB_1, yB_2⟩ | exact ⟨zB_0, zB_1, zB_2⟩ | exact ⟨cB_2_0, cB_2_1, cB_2_2⟩ | exact ⟨cB_1_0, cB_1_1, cB_1_2⟩ | go_keep)
    (first
      | (go_at_call 46; ((with_reducible refine Calls.mono (QU.out _ _ X_2.out U_2.out) ?_); rintro e wz ⟨u, rfl, hu, kz⟩; obtain ⟨b0, a0, n0, c0, a1, n1, c1, rfl, hcr, hkk, f0, f1, f2, g0, g1, g2, s0, s1, s2⟩ := hu.put (R_2.out.keep kz) (KW_2.out.trans kz) (by omega); have FIN := Lib.hid (show RPost q w (.returned (.agg #[.bool b0, .slice a0 n0 c0, .slice a1 n1 c1])) _ from ⟨_, rfl, hcr, hkk⟩); have YB := (B_2.out.keep kz).other3 (g := w.heap.size + 1) (by omega) (.bool b0) (.slice a0 n0 c0) (.slice a1 n1 c1); obtain ⟨yB_0, yB_1, yB_2, -, -, -, -⟩ := YB; obtain ⟨zB_0, zB_1, zB_2, -, -, -, -⟩ := B_2.out.keep kz; clear hcr hkk hu kz))
      | (go_at_call 47; ((with_reducible refine Calls.mono (ON.out _ Y_1.out) ?_); rintro e w2 ⟨u, rfl, hu, k2⟩; have X_2 := Lib.hid (X_1.out.keep k2); have Y_2 := Lib.hid (Y_1.out.keep k2); have B_2 := Lib.hid (B_1.out.keep k2); have R_2 := Lib.hid (R_1.out.keep k2); have U_2 := Lib.hid hu; clear hu; have KW_2 := Lib.hid (KW_1.out.trans k2); obtain ⟨cB_2_0, cB_2_1, cB_2_2, -, -, -, -⟩ := id B_2.out; clear k2)))
  all_goals
    go_wp2
    refine bodyPost_ret (v := .agg #[.bool b0, .slice a0 n0 c0, .slice a1 n1 c1]) (by simp [results, Tryd.results35, go_sem, s0, s1, s2]) rfl ?_
    exact FIN.out
theorem field2 (w : World) (b : Bool) (x y : Value) : Sem.run Tryd.prog (Instr.field 37 (.agg #[.bool b, x, y]) 2) w = .ok y w := by
  simp [Instr.field, asAgg, go_sem]
theorem rS_sgn (s : Bool) (n d : Nat) : sgn (iv s n) = rS (rv s n d) := by
  rw [rS_rv]
  rcases sgn_facts (iv s n) with ⟨h, h1⟩ | ⟨h, h1⟩ | ⟨h, h1⟩
  · rw [h, iC, if_pos h1]
  · rw [h, h1, iC_self]
  · rw [h, iC, if_neg (by omega), if_pos h1]
theorem Cr.store {w0 v : World} {g : Nat} {q : Rat} {b : Bool} {a a' : Option Addr} {n c n' c' : Nat} {u0 u1 u2 : Value} (hc : Cr v (.agg #[.bool b, .slice a n c, .slice a' n' c']) q) (B : QBox g u0 u1 u2 v) (hg : w0.heap.size ≤ g) (hk : Keep w0 v) :
    QBox g (.bool b) (.slice a n c) (.slice a' n' c') (((v.setCell ⟨g, 0, none⟩ (.bool b)).setCell ⟨g, 1, none⟩ (.slice a n c)).setCell ⟨g, 2, none⟩ (.slice a' n' c')) ∧
    Cr (((v.setCell ⟨g, 0, none⟩ (.bool b)).setCell ⟨g, 1, none⟩ (.slice a n c)).setCell ⟨g, 2, none⟩ (.slice a' n' c')) (.agg #[.bool b, .slice a n c, .slice a' n' c']) q ∧
    Keep w0 (((v.setCell ⟨g, 0, none⟩ (.bool b)).setCell ⟨g, 1, none⟩ (.slice a n c)).setCell ⟨g, 2, none⟩ (.slice a' n' c')) := by
  obtain ⟨h1, h2, h3⟩ := hc.rds
  obtain ⟨s1, s2, s3, s4, s5⟩ := B.store hk hg (.bool b) (.slice a n c) (.slice a' n' c')
  refine ⟨⟨?_, ?_, s5, by simpa using B.f0, by simpa using B.f1, by simpa using B.f2, ?_⟩, Cr.of h1 (s2 _ _ _ _ h2) (s2 _ _ _ _ h3), s1⟩
  · rw [World.cell?_setCell_other _ _ _ _ (by simp), World.cell?_setCell_other _ _ _ _ (by simp)]; exact s3
  · rw [World.cell?_setCell_other _ _ _ _ (by simp)]; exact s4
  · intro i x
    match i with
    | 0 => rw [World.cell?_setCell_other _ _ _ _ (by simp), World.cell?_setCell_other _ _ _ _ (by simp), s3]; simp
    | 1 => rw [World.cell?_setCell_other _ _ _ _ (by simp), s4]; simp
    | 2 => rw [s5]; simp
    | i + 3 =>
      rw [World.cell?_setCell_other _ _ _ _ (by simp), World.cell?_setCell_other _ _ _ _ (by simp), World.cell?_setCell_other _ _ _ _ (by simp)]
      exact B.no (i + 3) x
theorem QBox.set0 {w : World} {g : Nat} {u0 u1 u2 : Value} (B : QBox g u0 u1 u2 w) (b : Bool) : QBox g (.bool b) u1 u2 (w.setCell ⟨g, 0, none⟩ (.bool b)) := by
  refine ⟨World.cell?_setCell_same _ _ _ B.c0, ?_, ?_, by simpa using B.f0, by simpa using B.f1, by simpa using B.f2, ?_⟩
  · rw [World.cell?_setCell_other _ _ _ _ (by simp)]; exact B.c1
  · rw [World.cell?_setCell_other _ _ _ _ (by simp)]; exact B.c2
  · intro i x
    match i with
    | 0 => rw [World.cell?_setCell_same _ _ _ B.c0]; simp
    | i + 1 => rw [World.cell?_setCell_other _ _ _ _ (by simp)]; exact B.no (i + 1) x
theorem QBox.other1 {g g' : Nat} {u0 u1 u2 : Value} {w : World} (h : QBox g' u0 u1 u2 w) (hne : g ≠ g') (u : Value) : QBox g' u0 u1 u2 (w.setCell ⟨g, 0, none⟩ u) := by
  have e : ∀ j, (w.setCell ⟨g, 0, none⟩ u).cell? ⟨g', j, none⟩ = w.cell? ⟨g', j, none⟩ := fun j => by
    rw [World.cell?_setCell_other _ _ _ _ (by simp)]
  have f : ∀ j, (w.setCell ⟨g, 0, none⟩ u).frozen? ⟨g', j, none⟩ = w.frozen? ⟨g', j, none⟩ := fun j => by simp
  exact ⟨(e 0).trans h.c0, (e 1).trans h.c1, (e 2).trans h.c2, (f 0).trans h.f0, (f 1).trans h.f1, (f 2).trans h.f2, fun i y => by rw [e i]; exact h.no i y⟩
theorem PBox.pre {w0 v : World} {lo g : Nat} {N : Nat} {s : Bool} {a : Option Addr} {n c : Nat} {u0 u1 : Value} (hc : Cn v (.slice a n c) N) (B : RBox g u0 u1 v) (hlo : lo ≤ g) (hg : w0.heap.size ≤ g) (hk : Keep w0 v) :
    PBox w0 lo s N (.pointer (some ⟨g, 0, none⟩)) ((v.setCell ⟨g, 0, none⟩ (.bool s)).setCell ⟨g, 1, none⟩ (.slice a n c)) := by
  obtain ⟨_, _, _, e, h1⟩ := hc
  cases e
  obtain ⟨s1, s2, s3, s4⟩ := B.store hk hg (.bool s) (.slice a n c)
  exact ⟨g, a, n, c, rfl, hlo, B.set _ _ _ _, ⟨_, _, _, rfl, s2 _ _ _ _ h1⟩, s1⟩
set_option maxHeartbeats 800000 in
theorem same_tt0 {w : World} {a a' b b' : Option Addr} {n c n' c' m g m' g' : Nat} {l l' r r' : List Nat} (hx : Rd w a n c l) (hx' : Rd w a' n' c' l') (hy : Rd w b m g r) (hy' : Rd w b' m' g' r') (h1 : eqB l r = false) :
    Calls Tryd.prog 24 #[.agg #[.bool true, .slice a n c, .slice a' n' c'], .agg #[.bool true, .slice b m g, .slice b' m' g']] w (BPost false w) := by
  obtain ⟨B_0, C_0, KW_0⟩ := op2n w true a n c a' n' c' true b m g b' m' g'
  have X_0 := Lib.hid (hx.below KW_0.out)
  have X'_0 := Lib.hid (hx'.below KW_0.out)
  have Y_0 := Lib.hid (hy.below KW_0.out)
  have Y'_0 := Lib.hid (hy'.below KW_0.out)
  have S1 := Lib.hid (fun w1 (h1 : Rd w1 a n c l) (h2 : Rd w1 b m g r) => same_n ⟨a, n, c, rfl, h1⟩ ⟨b, m, g, rfl, h2⟩)
  have S2 := Lib.hid (fun w1 (h1 : Rd w1 a' n' c' l') (h2 : Rd w1 b' m' g' r') => same_n ⟨a', n', c', rfl, h1⟩ ⟨b', m', g', rfl, h2⟩)
  rw [h1] at S1
  clear hx hx' hy hy' h1
  go_enter Tryd.func24, Tryd.ntmps24
  obtain ⟨B_c0, B_c1, B_c2, -, -, -, -⟩ := id B_0.out
  obtain ⟨C_c0, C_c1, C_c2, -, -, -, -⟩ := id C_0.out
  go_wp2_with fail
  refine Calls.mono (S1.out _ X_0.out Y_0.out) ?_
  rintro e w1 ⟨rfl, k1⟩
  clear B_c0 B_c1 B_c2 C_c0 C_c1 C_c2
  have X_1 := Lib.hid (X_0.out.keep k1)
  have X'_1 := Lib.hid (X'_0.out.keep k1)
  have Y_1 := Lib.hid (Y_0.out.keep k1)
  have Y'_1 := Lib.hid (Y'_0.out.keep k1)
  have B_1 := Lib.hid (B_0.out.keep k1)
  have C_1 := Lib.hid (C_0.out.keep k1)
  have KW_1 := Lib.hid (KW_0.out.trans k1)
  clear k1 X_0 X'_0 Y_0 Y'_0 B_0 C_0 KW_0
  obtain ⟨B_c0, B_c1, B_c2, -, -, -, -⟩ := id B_1.out
  obtain ⟨C_c0, C_c1, C_c2, -, -, -, -⟩ := id C_1.out
  go_wp2_with fail
  go_ret
  exact ⟨rfl, KW_1.out⟩
set_option maxHeartbeats 800000 in
theorem same_tt1 {w : World} {a a' b b' : Option Addr} {n c n' c' m g m' g' : Nat} {l l' r r' : List Nat} (hx : Rd w a n c l) (hx' : Rd w a' n' c' l') (hy : Rd w b m g r) (hy' : Rd w b' m' g' r') (h1 : eqB l r = true) :
    Calls Tryd.prog 24 #[.agg #[.bool true, .slice a n c, .slice a' n' c'], .agg #[.bool true, .slice b m g, .slice b' m' g']] w (BPost (eqB l' r') w) := by
  obtain ⟨B_0, C_0, KW_0⟩ := op2n w true a n c a' n' c' true b m g b' m' g'
  have X_0 := Lib.hid (hx.below KW_0.out)
  have X'_0 := Lib.hid (hx'.below KW_0.out)
  have Y_0 := Lib.hid (hy.below KW_0.out)
  have Y'_0 := Lib.hid (hy'.below KW_0.out)
  have S1 := Lib.hid (fun w1 (h1 : Rd w1 a n c l) (h2 : Rd w1 b m g r) => same_n ⟨a, n, c, rfl, h1⟩ ⟨b, m, g, rfl, h2⟩)
  have S2 := Lib.hid (fun w1 (h1 : Rd w1 a' n' c' l') (h2 : Rd w1 b' m' g' r') => same_n ⟨a', n', c', rfl, h1⟩ ⟨b', m', g', rfl, h2⟩)
  rw [h1] at S1
  obtain ⟨z, hz⟩ : ∃ z, eqB l' r' = z := ⟨_, rfl⟩
  rw [hz] at S2 ⊢
  clear hz
  clear hx hx' hy hy' h1
  go_enter Tryd.func24, Tryd.ntmps24
  obtain ⟨B_c0, B_c1, B_c2, -, -, -, -⟩ := id B_0.out
  obtain ⟨C_c0, C_c1, C_c2, -, -, -, -⟩ := id C_0.out
  go_wp2_with fail
  refine Calls.mono (S1.out _ X_0.out Y_0.out) ?_
  rintro e w1 ⟨rfl, k1⟩
  clear B_c0 B_c1 B_c2 C_c0 C_c1 C_c2
  have X_1 := Lib.hid (X_0.out.keep k1)
  have X'_1 := Lib.hid (X'_0.out.keep k1)
  have Y_1 := Lib.hid (Y_0.out.keep k1)
  have Y'_1 := Lib.hid (Y'_0.out.keep k1)
  have B_1 := Lib.hid (B_0.out.keep k1)
  have C_1 := Lib.hid (C_0.out.keep k1)
  have KW_1 := Lib.hid (KW_0.out.trans k1)
  clear k1 X_0 X'_0 Y_0 Y'_0 B_0 C_0 KW_0
  obtain ⟨B_c0, B_c1, B_c2, -, -, -, -⟩ := id B_1.out
  obtain ⟨C_c0, C_c1, C_c2, -, -, -, -⟩ := id C_1.out
  go_wp2_with fail
  refine Calls.mono (S2.out _ X'_1.out Y'_1.out) ?_
  rintro e w2 ⟨rfl, k2⟩
  clear B_c0 B_c1 B_c2 C_c0 C_c1 C_c2
  have X_2 := Lib.hid (X_1.out.keep k2)
  have X'_2 := Lib.hid (X'_1.out.keep k2)
  have Y_2 := Lib.hid (Y_1.out.keep k2)
  have Y'_2 := Lib.hid (Y'_1.out.keep k2)
  have B_2 := Lib.hid (B_1.out.keep k2)
  have C_2 := Lib.hid (C_1.out.keep k2)
  have KW_2 := Lib.hid (KW_1.out.trans k2)
  clear k2 X_1 X'_1 Y_1 Y'_1 B_1 C_1 KW_1
  obtain ⟨B_c0, B_c1, B_c2, -, -, -, -⟩ := id B_2.out
  obtain ⟨C_c0, C_c1, C_c2, -, -, -, -⟩ := id C_2.out
  go_wp2_with fail
  go_ret
  exact ⟨rfl, KW_2.out⟩
set_option maxHeartbeats 800000 in
theorem same_ff0 {w : World} {a a' b b' : Option Addr} {n c n' c' m g m' g' : Nat} {l l' r r' : List Nat} (hx : Rd w a n c l) (hx' : Rd w a' n' c' l') (hy : Rd w b m g r) (hy' : Rd w b' m' g' r') (h1 : eqB l r = false) :
    Calls Tryd.prog 24 #[.agg #[.bool false, .slice a n c, .slice a' n' c'], .agg #[.bool false, .slice b m g, .slice b' m' g']] w (BPost false w) := by
  obtain ⟨B_0, C_0, KW_0⟩ := op2n w false a n c a' n' c' false b m g b' m' g'
  have X_0 := Lib.hid (hx.below KW_0.out)
  have X'_0 := Lib.hid (hx'.below KW_0.out)
  have Y_0 := Lib.hid (hy.below KW_0.out)
  have Y'_0 := Lib.hid (hy'.below KW_0.out)
  have S1 := Lib.hid (fun w1 (h1 : Rd w1 a n c l) (h2 : Rd w1 b m g r) => same_n ⟨a, n, c, rfl, h1⟩ ⟨b, m, g, rfl, h2⟩)
  have S2 := Lib.hid (fun w1 (h1 : Rd w1 a' n' c' l') (h2 : Rd w1 b' m' g' r') => same_n ⟨a', n', c', rfl, h1⟩ ⟨b', m', g', rfl, h2⟩)
  rw [h1] at S1
  clear hx hx' hy hy' h1
  go_enter Tryd.func24, Tryd.ntmps24
  obtain ⟨B_c0, B_c1, B_c2, -, -, -, -⟩ := id B_0.out
  obtain ⟨C_c0, C_c1, C_c2, -, -, -, -⟩ := id C_0.out
  go_wp2_with fail
  refine Calls.mono (S1.out _ X_0.out Y_0.out) ?_
  rintro e w1 ⟨rfl, k1⟩
  clear B_c0 B_c1 B_c2 C_c0 C_c1 C_c2
  have X_1 := Lib.hid (X_0.out.keep k1)
  have X'_1 := Lib.hid (X'_0.out.keep k1)
  have Y_1 := Lib.hid (Y_0.out.keep k1)
  have Y'_1 := Lib.hid (Y'_0.out.keep k1)
  have B_1 := Lib.hid (B_0.out.keep k1)
  have C_1 := Lib.hid (C_0.out.keep k1)
  have KW_1 := Lib.hid (KW_0.out.trans k1)
  clear k1 X_0 X'_0 Y_0 Y'_0 B_0 C_0 KW_0
  obtain ⟨B_c0, B_c1, B_c2, -, -, -, -⟩ := id B_1.out
  obtain ⟨C_c0, C_c1, C_c2, -, -, -, -⟩ := id C_1.out
  go_wp2_with fail
  go_ret
  exact ⟨rfl, KW_1.out⟩
set_option maxHeartbeats 800000 in
theorem same_ff1 {w : World} {a a' b b' : Option Addr} {n c n' c' m g m' g' : Nat} {l l' r r' : List Nat} (hx : Rd w a n c l) (hx' : Rd w a' n' c' l') (hy : Rd w b m g r) (hy' : Rd w b' m' g' r') (h1 : eqB l r = true) :
    Calls Tryd.prog 24 #[.agg #[.bool false, .slice a n c, .slice a' n' c'], .agg #[.bool false, .slice b m g, .slice b' m' g']] w (BPost (eqB l' r') w) := by
  obtain ⟨B_0, C_0, KW_0⟩ := op2n w false a n c a' n' c' false b m g b' m' g'
  have X_0 := Lib.hid (hx.below KW_0.out)
  have X'_0 := Lib.hid (hx'.below KW_0.out)
  have Y_0 := Lib.hid (hy.below KW_0.out)
  have Y'_0 := Lib.hid (hy'.below KW_0.out)
  have S1 := Lib.hid (fun w1 (h1 : Rd w1 a n c l) (h2 : Rd w1 b m g r) => same_n ⟨a, n, c, rfl, h1⟩ ⟨b, m, g, rfl, h2⟩)
  have S2 := Lib.hid (fun w1 (h1 : Rd w1 a' n' c' l') (h2 : Rd w1 b' m' g' r') => same_n ⟨a', n', c', rfl, h1⟩ ⟨b', m', g', rfl, h2⟩)
  rw [h1] at S1
  obtain ⟨z, hz⟩ : ∃ z, eqB l' r' = z := ⟨_, rfl⟩
  rw [hz] at S2 ⊢
  clear hz
  clear hx hx' hy hy' h1
  go_enter Tryd.func24, Tryd.ntmps24
  obtain ⟨B_c0, B_c1, B_c2, -, -, -, -⟩ := id B_0.out
  obtain ⟨C_c0, C_c1, C_c2, -, -, -, -⟩ := id C_0.out
  go_wp2_with fail
  refine Calls.mono (S1.out _ X_0.out Y_0.out) ?_
  rintro e w1 ⟨rfl, k1⟩
  clear B_c0 B_c1 B_c2 C_c0 C_c1 C_c2
  have X_1 := Lib.hid (X_0.out.keep k1)
  have X'_1 := Lib.hid (X'_0.out.keep k1)
  have Y_1 := Lib.hid (Y_0.out.keep k1)
  have Y'_1 := Lib.hid (Y'_0.out.keep k1)
  have B_1 := Lib.hid (B_0.out.keep k1)
  have C_1 := Lib.hid (C_0.out.keep k1)
  have KW_1 := Lib.hid (KW_0.out.trans k1)
  clear k1 X_0 X'_0 Y_0 Y'_0 B_0 C_0 KW_0
  obtain ⟨B_c0, B_c1, B_c2, -, -, -, -⟩ := id B_1.out
  obtain ⟨C_c0, C_c1, C_c2, -, -, -, -⟩ := id C_1.out
  go_wp2_with fail
  refine Calls.mono (S2.out _ X'_1.out Y'_1.out) ?_
  rintro e w2 ⟨rfl, k2⟩
  clear B_c0 B_c1 B_c2 C_c0 C_c1 C_c2
  have X_2 := Lib.hid (X_1.out.keep k2)
  have X'_2 := Lib.hid (X'_1.out.keep k2)
  have Y_2 := Lib.hid (Y_1.out.keep k2)
  have Y'_2 := Lib.hid (Y'_1.out.keep k2)
  have B_2 := Lib.hid (B_1.out.keep k2)
  have C_2 := Lib.hid (C_1.out.keep k2)
  have KW_2 := Lib.hid (KW_1.out.trans k2)
  clear k2 X_1 X'_1 Y_1 Y'_1 B_1 C_1 KW_1
  obtain ⟨B_c0, B_c1, B_c2, -, -, -, -⟩ := id B_2.out
  obtain ⟨C_c0, C_c1, C_c2, -, -, -, -⟩ := id C_2.out
  go_wp2_with fail
  go_ret
  exact ⟨rfl, KW_2.out⟩
set_option maxHeartbeats 800000 in
theorem same_tf {w : World} {a a' b b' : Option Addr} {n c n' c' m g m' g' : Nat} {l l' r r' : List Nat} (hx : Rd w a n c l) (hx' : Rd w a' n' c' l') (hy : Rd w b m g r) (hy' : Rd w b' m' g' r')  :
    Calls Tryd.prog 24 #[.agg #[.bool true, .slice a n c, .slice a' n' c'], .agg #[.bool false, .slice b m g, .slice b' m' g']] w (BPost false w) := by
  obtain ⟨B_0, C_0, KW_0⟩ := op2n w true a n c a' n' c' false b m g b' m' g'
  have X_0 := Lib.hid (hx.below KW_0.out)
  have X'_0 := Lib.hid (hx'.below KW_0.out)
  have Y_0 := Lib.hid (hy.below KW_0.out)
  have Y'_0 := Lib.hid (hy'.below KW_0.out)
  have S1 := Lib.hid (fun w1 (h1 : Rd w1 a n c l) (h2 : Rd w1 b m g r) => same_n ⟨a, n, c, rfl, h1⟩ ⟨b, m, g, rfl, h2⟩)
  have S2 := Lib.hid (fun w1 (h1 : Rd w1 a' n' c' l') (h2 : Rd w1 b' m' g' r') => same_n ⟨a', n', c', rfl, h1⟩ ⟨b', m', g', rfl, h2⟩)
  clear hx hx' hy hy' 
  go_enter Tryd.func24, Tryd.ntmps24
  obtain ⟨B_c0, B_c1, B_c2, -, -, -, -⟩ := id B_0.out
  obtain ⟨C_c0, C_c1, C_c2, -, -, -, -⟩ := id C_0.out
  go_wp2_with fail
  go_ret
  exact ⟨rfl, KW_0.out⟩
set_option maxHeartbeats 800000 in
theorem same_ft {w : World} {a a' b b' : Option Addr} {n c n' c' m g m' g' : Nat} {l l' r r' : List Nat} (hx : Rd w a n c l) (hx' : Rd w a' n' c' l') (hy : Rd w b m g r) (hy' : Rd w b' m' g' r')  :
    Calls Tryd.prog 24 #[.agg #[.bool false, .slice a n c, .slice a' n' c'], .agg #[.bool true, .slice b m g, .slice b' m' g']] w (BPost false w) := by
  obtain ⟨B_0, C_0, KW_0⟩ := op2n w false a n c a' n' c' true b m g b' m' g'
  have X_0 := Lib.hid (hx.below KW_0.out)
  have X'_0 := Lib.hid (hx'.below KW_0.out)
  have Y_0 := Lib.hid (hy.below KW_0.out)
  have Y'_0 := Lib.hid (hy'.below KW_0.out)
  have S1 := Lib.hid (fun w1 (h1 : Rd w1 a n c l) (h2 : Rd w1 b m g r) => same_n ⟨a, n, c, rfl, h1⟩ ⟨b, m, g, rfl, h2⟩)
  have S2 := Lib.hid (fun w1 (h1 : Rd w1 a' n' c' l') (h2 : Rd w1 b' m' g' r') => same_n ⟨a', n', c', rfl, h1⟩ ⟨b', m', g', rfl, h2⟩)
  clear hx hx' hy hy' 
  go_enter Tryd.func24, Tryd.ntmps24
  obtain ⟨B_c0, B_c1, B_c2, -, -, -, -⟩ := id B_0.out
  obtain ⟨C_c0, C_c1, C_c2, -, -, -, -⟩ := id C_0.out
  go_wp2_with fail
  go_ret
  exact ⟨rfl, KW_0.out⟩
theorem qsame_c {w : World} {s t : Bool} {a a' b b' : Option Addr} {n c n' c' m g m' g' : Nat} {l l' r r' : List Nat} (hx : Rd w a n c l) (hx' : Rd w a' n' c' l') (hy : Rd w b m g r) (hy' : Rd w b' m' g' r') :
    Calls Tryd.prog 24 #[.agg #[.bool s, .slice a n c, .slice a' n' c'], .agg #[.bool t, .slice b m g, .slice b' m' g']] w (BPost ((s == t) && eqB l r && eqB l' r') w) := by
  obtain ⟨e, he⟩ : ∃ e, eqB l r = e := ⟨_, rfl⟩
  rw [he]
  cases s <;> cases t <;> cases e <;> simp only [beq_self_eq_true, Bool.true_and, Bool.false_and, Bool.and_false, Bool.and_true, show (true == false) = false from rfl, show (false == true) = false from rfl]
  · exact same_ff0 hx hx' hy hy' he
  · exact same_ff1 hx hx' hy hy' he
  · exact same_ft hx hx' hy hy'
  · exact same_ft hx hx' hy hy'
  · exact same_tf hx hx' hy hy'
  · exact same_tf hx hx' hy hy'
  · exact same_tt0 hx hx' hy hy' he
  · exact same_tt1 hx hx' hy hy' he
theorem eqB_self (l : List Nat) : eqB l l = true := by unfold eqB; exact beq_self_eq_true l
theorem qsame_t {w : World} {v u : Value} {q : Rat} (h : Cr w v q) (h' : Cr w u q) : Calls Tryd.prog 24 #[v, u] w (BPost true w) := by
  obtain ⟨a, n, c, a', n', c', rfl, _, _, h1, h2⟩ := h.form
  obtain ⟨b, m, g, b', m', g', rfl, _, _, h3, h4⟩ := h'.form
  have H := qsame_c (s := decide (q.num < 0)) (t := decide (q.num < 0)) h1 h2 h3 h4
  rw [beq_self_eq_true, eqB_self, eqB_self] at H
  exact H
/-- a fraction is in lowest terms -/
def okQ (s : Bool) (l l' : List Nat) : Bool := (s == decide ((rv s (nv l) (nv l')).num < 0)) && eqB l (dig (rv s (nv l) (nv l')).num.natAbs) && eqB l' (dig (wd (rv s (nv l) (nv l'))))
set_option maxHeartbeats 800000 in
theorem rqvalid_c {w : World} {s : Bool} {a a' : Option Addr} {n c n' c' k : Nat} {l l' : List Nat} (hx : Rd w a n c l) (hx' : Rd w a' n' c' l') (hl : l.length ≤ k) (hl' : l'.length ≤ k) (hk : k ≤ 500000) (hk1 : 1 ≤ k) :
    Calls Tryd.prog 15 #[.agg #[.bool s, .slice a n c, .slice a' n' c']] w (BPost (okQ s l l') w) := by
  have KW_0 := Lib.hid ((Keep.refl w).alloc (.cells #[.bool s, .slice a n c, .slice a' n' c'] 37))
  have B_0 := Lib.hid (QBox.new w s a n c a' n' c')
  have X_0 := Lib.hid (hx.below KW_0.out)
  have X'_0 := Lib.hid (hx'.below KW_0.out)
  have CN := Lib.hid (fun w1 (h : Rd w1 a n c l) (h' : Rd w1 a' n' c' l') => rcanon_c (q0 := rv s (nv l) (nv l')) (v := .agg #[.bool s, .slice a n c, .slice a' n' c']) ⟨_, _, _, _, _, rfl, h.toNm rfl hl, h'.toNm rfl hl', rfl⟩ hk hk1)
  have SM := Lib.hid (fun w1 u (h : Rd w1 a n c l) (h' : Rd w1 a' n' c' l') (hu : Cr w1 u (rv s (nv l) (nv l'))) => show Calls Tryd.prog 24 #[.agg #[.bool s, .slice a n c, .slice a' n' c'], u] w1 (BPost (okQ s l l') w1) from by
    obtain ⟨b, m, g, b', m', g', rfl, _, _, h3, h4⟩ := hu.form
    exact qsame_c h h' h3 h4)
  obtain ⟨z, hz⟩ : ∃ z, okQ s l l' = z := ⟨_, rfl⟩
  obtain ⟨q, hq⟩ : ∃ q, rv s (nv l) (nv l') = q := ⟨_, rfl⟩
  rw [hq] at CN SM
  rw [hz] at SM ⊢
  clear hx hx' hl hl' hz hq
  go_enter Tryd.func15, Tryd.ntmps15
  obtain ⟨oB_0, oB_1, oB_2, -, -, -, -⟩ := id B_0.out
  have X_1 := Lib.hid (X_0.out.keep (keep_drew _))
  clear X_0
  have X'_1 := Lib.hid (X'_0.out.keep (keep_drew _))
  clear X'_0
  have B_1 := Lib.hid (B_0.out.keep (keep_drew _))
  clear B_0
  have KW_1 := Lib.hid (KW_0.out.trans (keep_drew _))
  clear KW_0
  obtain ⟨cB_1_0, cB_1_1, cB_1_2, -, -, -, -⟩ := id B_1.out
  go_wp2
  go_region_held3 (fun w' => w'.cell? ⟨w.heap.size, 0, none⟩ = some (.bool s) ∧ w'.cell? ⟨w.heap.size, 1, none⟩ = some (.slice a n c) ∧ w'.cell? ⟨w.heap.size, 2, none⟩ = some (.slice a' n' c')) (first | exact ⟨cB_3_0, cB_3_1, cB_3_2⟩ | exact ⟨cB_2_0, cB_2_1, cB_2_2⟩ | exact ⟨cB_1_0, cB_1_1, cB_1_2⟩ | go_keep)
    (first
      | (go_at_call 24; ((with_reducible refine Calls.mono (SM.out _ _ X_2.out X'_2.out U_2.out) ?_); rintro e w3 ⟨rfl, k3⟩; have X_3 := Lib.hid (X_2.out.keep k3); have X'_3 := Lib.hid (X'_2.out.keep k3); have B_3 := Lib.hid (B_2.out.keep k3); have U_3 := Lib.hid (U_2.out.keep k3); have KW_3 := Lib.hid (KW_2.out.trans k3); obtain ⟨cB_3_0, cB_3_1, cB_3_2, -, -, -, -⟩ := id B_3.out; clear k3))
      | (go_at_call 35; ((with_reducible refine Calls.mono (CN.out _ X_1.out X'_1.out) ?_); rintro e w2 ⟨x2, rfl, hU, k2⟩; have X_2 := Lib.hid (X_1.out.keep k2); have X'_2 := Lib.hid (X'_1.out.keep k2); have B_2 := Lib.hid (B_1.out.keep k2); have U_2 := Lib.hid hU; clear hU; have KW_2 := Lib.hid (KW_1.out.trans k2); obtain ⟨cB_2_0, cB_2_1, cB_2_2, -, -, -, -⟩ := id B_2.out; clear k2)))
  clear cB_3_0 cB_3_1 cB_3_2 cB_2_0 cB_2_1 cB_2_2 cB_1_0 cB_1_1 cB_1_2 oB_0 oB_1 oB_2
  all_goals
    go_wp2_with fail
    go_ret
    exact ⟨rfl, KW_3.out⟩
end Go.Proofs.YtcdkehghdhcokaaDoor
