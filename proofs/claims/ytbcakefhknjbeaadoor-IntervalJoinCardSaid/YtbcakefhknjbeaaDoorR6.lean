/- Carried over from another seat by program (portn.py). -/
import Derived.Test.YtbcakefhknjbeaaDoorR5
import Derived.Test.YtbcakefhknjbeaaDoorIJ
namespace Go.Proofs.YtbcakefhknjbeaaDoor
open Go.RowKit
set_option linter.unusedVariables false
theorem QBox.other3 {g g' : Nat} {u0 u1 u2 : Value} {w : World} (h : QBox g' u0 u1 u2 w) (hne : g ≠ g') (u v x : Value) : QBox g' u0 u1 u2 (((w.setCell ⟨g, 0, none⟩ u).setCell ⟨g, 1, none⟩ v).setCell ⟨g, 2, none⟩ x) := by
  have e : ∀ j, (((w.setCell ⟨g, 0, none⟩ u).setCell ⟨g, 1, none⟩ v).setCell ⟨g, 2, none⟩ x).cell? ⟨g', j, none⟩ = w.cell? ⟨g', j, none⟩ := fun j => by
    rw [World.cell?_setCell_other _ _ _ _ (by simp), World.cell?_setCell_other _ _ _ _ (by simp), World.cell?_setCell_other _ _ _ _ (by simp)]
  have f : ∀ j, (((w.setCell ⟨g, 0, none⟩ u).setCell ⟨g, 1, none⟩ v).setCell ⟨g, 2, none⟩ x).frozen? ⟨g', j, none⟩ = w.frozen? ⟨g', j, none⟩ := fun j => by simp
  exact ⟨(e 0).trans h.c0, (e 1).trans h.c1, (e 2).trans h.c2, (f 0).trans h.f0, (f 1).trans h.f1, (f 2).trans h.f2, fun i y => by rw [e i]; exact h.no i y⟩
theorem op1 (w : World) (s : Bool) (a : Option Addr) (n c : Nat) (a' : Option Addr) (n' c' : Nat) :
    Hid (QBox w.heap.size (.bool s) (.slice a n c) (.slice a' n' c') ((w.alloc (.cells #[.bool s, .slice a n c, .slice a' n' c'] 32)).alloc (.cells #[.bool false, .slice none 0 0, .slice none 0 0] 32))) ∧ Hid (QBox (w.heap.size + 1) (.bool false) (.slice none 0 0) (.slice none 0 0) ((w.alloc (.cells #[.bool s, .slice a n c, .slice a' n' c'] 32)).alloc (.cells #[.bool false, .slice none 0 0, .slice none 0 0] 32))) ∧ Hid (Keep w ((w.alloc (.cells #[.bool s, .slice a n c, .slice a' n' c'] 32)).alloc (.cells #[.bool false, .slice none 0 0, .slice none 0 0] 32))) :=
  ⟨Lib.hid ((QBox.new w s a n c a' n' c').keep ((Keep.refl _).alloc _)), Lib.hid ((QBox.new (w.alloc _) false none 0 0 none 0 0).at (sz1 _ _)), Lib.hid (((Keep.refl w).alloc _).alloc _)⟩
theorem Ra.form {w : World} {v : Value} {q : Rat} {k : Nat} (h : Ra w v q k) : ∃ s a n c a' n' c' N D, v = .agg #[.bool s, .slice a n c, .slice a' n' c'] ∧ Nm w (.slice a n c) N k ∧ Nm w (.slice a' n' c') D k ∧ rv s N D = q := by
  obtain ⟨s, n, d, x, y, h1, h2, h3, h4⟩ := h
  obtain ⟨a, len, cap, l, rfl, _⟩ := h2.form3
  obtain ⟨a', len', cap', l', rfl, _⟩ := h3.form3
  exact ⟨s, a, len, cap, a', len', cap', n, d, h1, h2, h3, h4⟩
set_option maxHeartbeats 800000 in
theorem canon_c {w : World} {v : Value} {q0 : Rat} {k : Nat} (h : Ra w v q0 k) (hk : k ≤ 1048574) (hk1 : 1 ≤ k) (hT : Tab w) : Calls Tryd.prog 55 #[v] w (RPost (q0) w) := by
  obtain ⟨s, a, n, c, a', n', c', N, D, rfl, hN, hD, rfl⟩ := h.form
  obtain ⟨B_0, R_0, KW_0⟩ := op1 w s a n c a' n' c'
  have X_0 := Lib.hid (hN.keep KW_0.out)
  have Y_0 := Lib.hid (hD.keep KW_0.out)
  have T_0 := Lib.hid (hT.keep KW_0.out)
  have DN := Lib.hid (fun w1 (h : Nm w1 (.slice a' n' c') D k) => den_c (s := s) (a := a) (n := n) (c := c) h (by omega) hk1)
  have RD := Lib.hid (fun w1 u (h : Nm w1 (.slice a n c) N k) (h' : Nm w1 u (dn D) k) (hT1 : Tab w1) => reduce_c s h h' (dn_ne D) hk hT1)
  rw [rv_dn] at RD
  obtain ⟨q, hq⟩ : ∃ q, rv s N D = q := ⟨_, rfl⟩
  rw [hq] at RD ⊢
  clear h hN hD hT hq
  go_enter Tryd.func55, Tryd.ntmps55
  have X_1 := Lib.hid (X_0.out.keep (keep_drew _))
  clear X_0
  have Y_1 := Lib.hid (Y_0.out.keep (keep_drew _))
  clear Y_0
  have T_1 := Lib.hid (T_0.out.keep (keep_drew _))
  clear T_0
  have B_1 := Lib.hid (B_0.out.keep (keep_drew _))
  clear B_0
  have R_1 := Lib.hid (R_0.out.keep (keep_drew _))
  clear R_0
  have KW_1 := Lib.hid (KW_0.out.trans (keep_drew _))
  clear KW_0
  obtain ⟨cB_1_0, cB_1_1, cB_1_2, _, _, _, _⟩ := id B_1.out
  go_wp2
  go_region_held3 (fun w' => w'.cell? ⟨w.heap.size, 0, none⟩ = some (.bool s) ∧ w'.cell? ⟨w.heap.size, 1, none⟩ = some (.slice a n c) ∧ w'.cell? ⟨w.heap.size, 2, none⟩ = some (.slice a' n' c')) (first | exact ⟨yB_0, yB_1, yB_2⟩ | exact ⟨zB_0, zB_1, zB_2⟩ | exact ⟨cB_2_0, cB_2_1, cB_2_2⟩ | exact ⟨cB_1_0, cB_1_1, cB_1_2⟩ | go_keep)
    (first
      | (go_at_call 94; ((with_reducible refine Calls.mono (RD.out _ _ X_2.out U_2.out T_2.out) ?_); rintro e wz ⟨u, rfl, hu, kz⟩; obtain ⟨b0, a0, n0, c0, a1, n1, c1, rfl, hcr, hkk, f0, f1, f2, g0, g1, g2, s0, s1, s2⟩ := hu.put (R_2.out.keep kz) (KW_2.out.trans kz) (by omega); have FIN := Lib.hid (show RPost q w (.returned (.agg #[.bool b0, .slice a0 n0 c0, .slice a1 n1 c1])) _ from ⟨_, rfl, hcr, hkk⟩); have YB := (B_2.out.keep kz).other3 (g := w.heap.size + 1) (by omega) (.bool b0) (.slice a0 n0 c0) (.slice a1 n1 c1); obtain ⟨yB_0, yB_1, yB_2, _, _, _, _⟩ := YB; obtain ⟨zB_0, zB_1, zB_2, _, _, _, _⟩ := B_2.out.keep kz; clear hcr hkk hu kz))
      | (go_at_call 93; ((with_reducible refine Calls.mono (DN.out _ Y_1.out) ?_); rintro e w2 ⟨u, rfl, hu, k2⟩; have X_2 := Lib.hid (X_1.out.keep k2); have Y_2 := Lib.hid (Y_1.out.keep k2); have T_2 := Lib.hid (T_1.out.keep k2); have B_2 := Lib.hid (B_1.out.keep k2); have R_2 := Lib.hid (R_1.out.keep k2); have U_2 := Lib.hid hu; clear hu; have KW_2 := Lib.hid (KW_1.out.trans k2); obtain ⟨cB_2_0, cB_2_1, cB_2_2, _, _, _, _⟩ := id B_2.out; clear k2)))
  all_goals
    go_wp2
    refine bodyPost_ret (v := .agg #[.bool b0, .slice a0 n0 c0, .slice a1 n1 c1]) (by simp [results, Tryd.results55, go_sem, s0, s1, s2]) rfl ?_
    exact FIN.out
end Go.Proofs.YtbcakefhknjbeaaDoor
