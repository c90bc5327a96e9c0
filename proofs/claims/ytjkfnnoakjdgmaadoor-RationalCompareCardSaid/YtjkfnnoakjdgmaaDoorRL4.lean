/- Walks of layer 3: the law of comparison. -/
import Derived.Test.YtjkfnnoakjdgmaaDoorRL2
namespace Go.Proofs.YtjkfnnoakjdgmaaDoor
open Go.RowKit
set_option linter.unusedVariables false
theorem rC_range (p q : Rat) : rC p q = -1 ∨ rC p q = 0 ∨ rC p q = 1 := by
  rcases rC_facts p q with h | h | h
  · exact .inl h.1
  · exact .inr (.inl h.1)
  · exact .inr (.inr h.1)
theorem rC_wrap (p q : Rat) : wrap64 (-rC q p) = rC p q ∧ IntKind.i64.wrap (-rC q p) = rC p q := by
  rw [rC_neg p q]
  have h1 := mul_range (x := -1) (.inl rfl) (rC_range q p)
  have h2 := mul_range' (x := -1) (.inl rfl) (rC_range q p)
  rw [Int.neg_one_mul] at h1 h2
  exact ⟨h1, h2⟩
theorem rC_le {p q : Rat} : rC p q ≤ 0 ↔ p ≤ q := by
  rcases rC_facts p q with h | h | h
  · rw [h.1]; exact ⟨fun _ => Rat.le_of_lt h.2, fun _ => by decide⟩
  · rw [h.1]; exact ⟨fun _ => h.2 ▸ Rat.le_refl, fun _ => by decide⟩
  · rw [h.1]; exact ⟨fun e => absurd e (by decide), fun e => absurd e (Rat.not_le.2 h.2)⟩
set_option maxHeartbeats 4000000 in
theorem cmp_law_b0 {w : World} {s : Bool} {a a' : Option Addr} {n c n' c' : Nat} {lx lx' : List Nat} {t : Bool} {b b' : Option Addr} {m g m' g' : Nat} {ly ly' : List Nat} {o : Bool} {d d' : Option Addr} {i j i' j' : Nat} {lz lz' : List Nat} (hx : Rd w a n c lx) (hx' : Rd w a' n' c' lx') (hy : Rd w b m g ly) (hy' : Rd w b' m' g' ly') (hz : Rd w d i j lz) (hz' : Rd w d' i' j' lz') (hT : Tab w)  (fx : ¬ (n ≤ 3 ∧ n' ≤ 3)) : Calls Tryd.prog 7 #[.agg #[.bool s, .slice a n c, .slice a' n' c'], .agg #[.bool t, .slice b m g, .slice b' m' g'], .agg #[.bool o, .slice d i j, .slice d' i' j']] w (BPost true w) := by
  obtain ⟨B_0, C_0, D_0, KW_0⟩ := ops3 w s a n c a' n' c' t b m g b' m' g' o d i j d' i' j'
  have T_0 := Lib.hid (hT.keep KW_0.out)
  have AW := Lib.hid (fun w1 (hT1 : Tab w1) => awake_c w1 hT1)
  have FX := Lib.hid (fun w1 (h : Rd w1 a n c lx) (h' : Rd w1 a' n' c' lx') => few_c (s := s) h h')
  rw [decide_eq_false fx] at FX
  have X_0 := Lib.hid (hx.below KW_0.out)
  have X'_0 := Lib.hid (hx'.below KW_0.out)
  clear hT hx hx' hy hy' hz hz'
  go_enter Tryd.func7, Tryd.ntmps7
  obtain ⟨B_c0, B_c1, B_c2, -, -, -, -⟩ := id B_0.out
  obtain ⟨C_c0, C_c1, C_c2, -, -, -, -⟩ := id C_0.out
  obtain ⟨D_c0, D_c1, D_c2, -, -, -, -⟩ := id D_0.out
  go_wp2_with fail
  refine Calls.mono (AW.out _ T_0.out) ?_
  rintro e w1 ⟨rfl, k1⟩
  clear B_c0 B_c1 B_c2 C_c0 C_c1 C_c2 D_c0 D_c1 D_c2
  have T_1 := Lib.hid (T_0.out.keep k1)
  have X_1 := Lib.hid (X_0.out.keep k1)
  have X'_1 := Lib.hid (X'_0.out.keep k1)
  have B_1 := Lib.hid (B_0.out.keep k1)
  have C_1 := Lib.hid (C_0.out.keep k1)
  have D_1 := Lib.hid (D_0.out.keep k1)
  have KW_1 := Lib.hid (KW_0.out.trans k1)
  clear k1 T_0 X_0 X'_0 B_0 C_0 D_0 KW_0
  obtain ⟨B_c0, B_c1, B_c2, -, -, -, -⟩ := id B_1.out
  obtain ⟨C_c0, C_c1, C_c2, -, -, -, -⟩ := id C_1.out
  obtain ⟨D_c0, D_c1, D_c2, -, -, -, -⟩ := id D_1.out
  go_wp2_with fail
  refine Calls.mono (FX.out _ X_1.out X'_1.out) ?_
  rintro e w2 ⟨rfl, k2⟩
  clear B_c0 B_c1 B_c2 C_c0 C_c1 C_c2 D_c0 D_c1 D_c2
  have T_2 := Lib.hid (T_1.out.keep k2)
  have X_2 := Lib.hid (X_1.out.keep k2)
  have X'_2 := Lib.hid (X'_1.out.keep k2)
  have B_2 := Lib.hid (B_1.out.keep k2)
  have C_2 := Lib.hid (C_1.out.keep k2)
  have D_2 := Lib.hid (D_1.out.keep k2)
  have KW_2 := Lib.hid (KW_1.out.trans k2)
  clear k2 T_1 X_1 X'_1 B_1 C_1 D_1 KW_1
  obtain ⟨B_c0, B_c1, B_c2, -, -, -, -⟩ := id B_2.out
  obtain ⟨C_c0, C_c1, C_c2, -, -, -, -⟩ := id C_2.out
  obtain ⟨D_c0, D_c1, D_c2, -, -, -, -⟩ := id D_2.out
  go_wp2_with fail
  go_ret
  exact ⟨rfl, KW_2.out⟩
set_option maxHeartbeats 4000000 in
theorem cmp_law_b1 {w : World} {s : Bool} {a a' : Option Addr} {n c n' c' : Nat} {lx lx' : List Nat} {t : Bool} {b b' : Option Addr} {m g m' g' : Nat} {ly ly' : List Nat} {o : Bool} {d d' : Option Addr} {i j i' j' : Nat} {lz lz' : List Nat} (hx : Rd w a n c lx) (hx' : Rd w a' n' c' lx') (hy : Rd w b m g ly) (hy' : Rd w b' m' g' ly') (hz : Rd w d i j lz) (hz' : Rd w d' i' j' lz') (hT : Tab w) (fx : (n ≤ 3 ∧ n' ≤ 3)) (fy : ¬ (m ≤ 3 ∧ m' ≤ 3)) : Calls Tryd.prog 7 #[.agg #[.bool s, .slice a n c, .slice a' n' c'], .agg #[.bool t, .slice b m g, .slice b' m' g'], .agg #[.bool o, .slice d i j, .slice d' i' j']] w (BPost true w) := by
  obtain ⟨B_0, C_0, D_0, KW_0⟩ := ops3 w s a n c a' n' c' t b m g b' m' g' o d i j d' i' j'
  have T_0 := Lib.hid (hT.keep KW_0.out)
  have AW := Lib.hid (fun w1 (hT1 : Tab w1) => awake_c w1 hT1)
  have FX := Lib.hid (fun w1 (h : Rd w1 a n c lx) (h' : Rd w1 a' n' c' lx') => few_c (s := s) h h')
  rw [decide_eq_true fx] at FX
  have X_0 := Lib.hid (hx.below KW_0.out)
  have X'_0 := Lib.hid (hx'.below KW_0.out)
  have FY := Lib.hid (fun w1 (h : Rd w1 b m g ly) (h' : Rd w1 b' m' g' ly') => few_c (s := t) h h')
  rw [decide_eq_false fy] at FY
  have Y_0 := Lib.hid (hy.below KW_0.out)
  have Y'_0 := Lib.hid (hy'.below KW_0.out)
  clear hT hx hx' hy hy' hz hz'
  go_enter Tryd.func7, Tryd.ntmps7
  obtain ⟨B_c0, B_c1, B_c2, -, -, -, -⟩ := id B_0.out
  obtain ⟨C_c0, C_c1, C_c2, -, -, -, -⟩ := id C_0.out
  obtain ⟨D_c0, D_c1, D_c2, -, -, -, -⟩ := id D_0.out
  go_wp2_with fail
  refine Calls.mono (AW.out _ T_0.out) ?_
  rintro e w1 ⟨rfl, k1⟩
  clear B_c0 B_c1 B_c2 C_c0 C_c1 C_c2 D_c0 D_c1 D_c2
  have T_1 := Lib.hid (T_0.out.keep k1)
  have X_1 := Lib.hid (X_0.out.keep k1)
  have X'_1 := Lib.hid (X'_0.out.keep k1)
  have Y_1 := Lib.hid (Y_0.out.keep k1)
  have Y'_1 := Lib.hid (Y'_0.out.keep k1)
  have B_1 := Lib.hid (B_0.out.keep k1)
  have C_1 := Lib.hid (C_0.out.keep k1)
  have D_1 := Lib.hid (D_0.out.keep k1)
  have KW_1 := Lib.hid (KW_0.out.trans k1)
  clear k1 T_0 X_0 X'_0 Y_0 Y'_0 B_0 C_0 D_0 KW_0
  obtain ⟨B_c0, B_c1, B_c2, -, -, -, -⟩ := id B_1.out
  obtain ⟨C_c0, C_c1, C_c2, -, -, -, -⟩ := id C_1.out
  obtain ⟨D_c0, D_c1, D_c2, -, -, -, -⟩ := id D_1.out
  go_wp2_with fail
  refine Calls.mono (FX.out _ X_1.out X'_1.out) ?_
  rintro e w2 ⟨rfl, k2⟩
  clear B_c0 B_c1 B_c2 C_c0 C_c1 C_c2 D_c0 D_c1 D_c2
  have T_2 := Lib.hid (T_1.out.keep k2)
  have X_2 := Lib.hid (X_1.out.keep k2)
  have X'_2 := Lib.hid (X'_1.out.keep k2)
  have Y_2 := Lib.hid (Y_1.out.keep k2)
  have Y'_2 := Lib.hid (Y'_1.out.keep k2)
  have B_2 := Lib.hid (B_1.out.keep k2)
  have C_2 := Lib.hid (C_1.out.keep k2)
  have D_2 := Lib.hid (D_1.out.keep k2)
  have KW_2 := Lib.hid (KW_1.out.trans k2)
  clear k2 T_1 X_1 X'_1 Y_1 Y'_1 B_1 C_1 D_1 KW_1
  obtain ⟨B_c0, B_c1, B_c2, -, -, -, -⟩ := id B_2.out
  obtain ⟨C_c0, C_c1, C_c2, -, -, -, -⟩ := id C_2.out
  obtain ⟨D_c0, D_c1, D_c2, -, -, -, -⟩ := id D_2.out
  go_wp2_with fail
  refine Calls.mono (FY.out _ Y_2.out Y'_2.out) ?_
  rintro e w3 ⟨rfl, k3⟩
  clear B_c0 B_c1 B_c2 C_c0 C_c1 C_c2 D_c0 D_c1 D_c2
  have T_3 := Lib.hid (T_2.out.keep k3)
  have X_3 := Lib.hid (X_2.out.keep k3)
  have X'_3 := Lib.hid (X'_2.out.keep k3)
  have Y_3 := Lib.hid (Y_2.out.keep k3)
  have Y'_3 := Lib.hid (Y'_2.out.keep k3)
  have B_3 := Lib.hid (B_2.out.keep k3)
  have C_3 := Lib.hid (C_2.out.keep k3)
  have D_3 := Lib.hid (D_2.out.keep k3)
  have KW_3 := Lib.hid (KW_2.out.trans k3)
  clear k3 T_2 X_2 X'_2 Y_2 Y'_2 B_2 C_2 D_2 KW_2
  obtain ⟨B_c0, B_c1, B_c2, -, -, -, -⟩ := id B_3.out
  obtain ⟨C_c0, C_c1, C_c2, -, -, -, -⟩ := id C_3.out
  obtain ⟨D_c0, D_c1, D_c2, -, -, -, -⟩ := id D_3.out
  go_wp2_with fail
  go_ret
  exact ⟨rfl, KW_3.out⟩
set_option maxHeartbeats 4000000 in
theorem cmp_law_b2 {w : World} {s : Bool} {a a' : Option Addr} {n c n' c' : Nat} {lx lx' : List Nat} {t : Bool} {b b' : Option Addr} {m g m' g' : Nat} {ly ly' : List Nat} {o : Bool} {d d' : Option Addr} {i j i' j' : Nat} {lz lz' : List Nat} (hx : Rd w a n c lx) (hx' : Rd w a' n' c' lx') (hy : Rd w b m g ly) (hy' : Rd w b' m' g' ly') (hz : Rd w d i j lz) (hz' : Rd w d' i' j' lz') (hT : Tab w) (fx : (n ≤ 3 ∧ n' ≤ 3)) (fy : (m ≤ 3 ∧ m' ≤ 3)) (fz : ¬ (i ≤ 3 ∧ i' ≤ 3)) : Calls Tryd.prog 7 #[.agg #[.bool s, .slice a n c, .slice a' n' c'], .agg #[.bool t, .slice b m g, .slice b' m' g'], .agg #[.bool o, .slice d i j, .slice d' i' j']] w (BPost true w) := by
  obtain ⟨B_0, C_0, D_0, KW_0⟩ := ops3 w s a n c a' n' c' t b m g b' m' g' o d i j d' i' j'
  have T_0 := Lib.hid (hT.keep KW_0.out)
  have AW := Lib.hid (fun w1 (hT1 : Tab w1) => awake_c w1 hT1)
  have FX := Lib.hid (fun w1 (h : Rd w1 a n c lx) (h' : Rd w1 a' n' c' lx') => few_c (s := s) h h')
  rw [decide_eq_true fx] at FX
  have X_0 := Lib.hid (hx.below KW_0.out)
  have X'_0 := Lib.hid (hx'.below KW_0.out)
  have FY := Lib.hid (fun w1 (h : Rd w1 b m g ly) (h' : Rd w1 b' m' g' ly') => few_c (s := t) h h')
  rw [decide_eq_true fy] at FY
  have Y_0 := Lib.hid (hy.below KW_0.out)
  have Y'_0 := Lib.hid (hy'.below KW_0.out)
  have FZ := Lib.hid (fun w1 (h : Rd w1 d i j lz) (h' : Rd w1 d' i' j' lz') => few_c (s := o) h h')
  rw [decide_eq_false fz] at FZ
  have Z_0 := Lib.hid (hz.below KW_0.out)
  have Z'_0 := Lib.hid (hz'.below KW_0.out)
  clear hT hx hx' hy hy' hz hz'
  go_enter Tryd.func7, Tryd.ntmps7
  obtain ⟨B_c0, B_c1, B_c2, -, -, -, -⟩ := id B_0.out
  obtain ⟨C_c0, C_c1, C_c2, -, -, -, -⟩ := id C_0.out
  obtain ⟨D_c0, D_c1, D_c2, -, -, -, -⟩ := id D_0.out
  go_wp2_with fail
  refine Calls.mono (AW.out _ T_0.out) ?_
  rintro e w1 ⟨rfl, k1⟩
  clear B_c0 B_c1 B_c2 C_c0 C_c1 C_c2 D_c0 D_c1 D_c2
  have T_1 := Lib.hid (T_0.out.keep k1)
  have X_1 := Lib.hid (X_0.out.keep k1)
  have X'_1 := Lib.hid (X'_0.out.keep k1)
  have Y_1 := Lib.hid (Y_0.out.keep k1)
  have Y'_1 := Lib.hid (Y'_0.out.keep k1)
  have Z_1 := Lib.hid (Z_0.out.keep k1)
  have Z'_1 := Lib.hid (Z'_0.out.keep k1)
  have B_1 := Lib.hid (B_0.out.keep k1)
  have C_1 := Lib.hid (C_0.out.keep k1)
  have D_1 := Lib.hid (D_0.out.keep k1)
  have KW_1 := Lib.hid (KW_0.out.trans k1)
  clear k1 T_0 X_0 X'_0 Y_0 Y'_0 Z_0 Z'_0 B_0 C_0 D_0 KW_0
  obtain ⟨B_c0, B_c1, B_c2, -, -, -, -⟩ := id B_1.out
  obtain ⟨C_c0, C_c1, C_c2, -, -, -, -⟩ := id C_1.out
  obtain ⟨D_c0, D_c1, D_c2, -, -, -, -⟩ := id D_1.out
  go_wp2_with fail
  refine Calls.mono (FX.out _ X_1.out X'_1.out) ?_
  rintro e w2 ⟨rfl, k2⟩
  clear B_c0 B_c1 B_c2 C_c0 C_c1 C_c2 D_c0 D_c1 D_c2
  have T_2 := Lib.hid (T_1.out.keep k2)
  have X_2 := Lib.hid (X_1.out.keep k2)
  have X'_2 := Lib.hid (X'_1.out.keep k2)
  have Y_2 := Lib.hid (Y_1.out.keep k2)
  have Y'_2 := Lib.hid (Y'_1.out.keep k2)
  have Z_2 := Lib.hid (Z_1.out.keep k2)
  have Z'_2 := Lib.hid (Z'_1.out.keep k2)
  have B_2 := Lib.hid (B_1.out.keep k2)
  have C_2 := Lib.hid (C_1.out.keep k2)
  have D_2 := Lib.hid (D_1.out.keep k2)
  have KW_2 := Lib.hid (KW_1.out.trans k2)
  clear k2 T_1 X_1 X'_1 Y_1 Y'_1 Z_1 Z'_1 B_1 C_1 D_1 KW_1
  obtain ⟨B_c0, B_c1, B_c2, -, -, -, -⟩ := id B_2.out
  obtain ⟨C_c0, C_c1, C_c2, -, -, -, -⟩ := id C_2.out
  obtain ⟨D_c0, D_c1, D_c2, -, -, -, -⟩ := id D_2.out
  go_wp2_with fail
  refine Calls.mono (FY.out _ Y_2.out Y'_2.out) ?_
  rintro e w3 ⟨rfl, k3⟩
  clear B_c0 B_c1 B_c2 C_c0 C_c1 C_c2 D_c0 D_c1 D_c2
  have T_3 := Lib.hid (T_2.out.keep k3)
  have X_3 := Lib.hid (X_2.out.keep k3)
  have X'_3 := Lib.hid (X'_2.out.keep k3)
  have Y_3 := Lib.hid (Y_2.out.keep k3)
  have Y'_3 := Lib.hid (Y'_2.out.keep k3)
  have Z_3 := Lib.hid (Z_2.out.keep k3)
  have Z'_3 := Lib.hid (Z'_2.out.keep k3)
  have B_3 := Lib.hid (B_2.out.keep k3)
  have C_3 := Lib.hid (C_2.out.keep k3)
  have D_3 := Lib.hid (D_2.out.keep k3)
  have KW_3 := Lib.hid (KW_2.out.trans k3)
  clear k3 T_2 X_2 X'_2 Y_2 Y'_2 Z_2 Z'_2 B_2 C_2 D_2 KW_2
  obtain ⟨B_c0, B_c1, B_c2, -, -, -, -⟩ := id B_3.out
  obtain ⟨C_c0, C_c1, C_c2, -, -, -, -⟩ := id C_3.out
  obtain ⟨D_c0, D_c1, D_c2, -, -, -, -⟩ := id D_3.out
  go_wp2_with fail
  refine Calls.mono (FZ.out _ Z_3.out Z'_3.out) ?_
  rintro e w4 ⟨rfl, k4⟩
  clear B_c0 B_c1 B_c2 C_c0 C_c1 C_c2 D_c0 D_c1 D_c2
  have T_4 := Lib.hid (T_3.out.keep k4)
  have X_4 := Lib.hid (X_3.out.keep k4)
  have X'_4 := Lib.hid (X'_3.out.keep k4)
  have Y_4 := Lib.hid (Y_3.out.keep k4)
  have Y'_4 := Lib.hid (Y'_3.out.keep k4)
  have Z_4 := Lib.hid (Z_3.out.keep k4)
  have Z'_4 := Lib.hid (Z'_3.out.keep k4)
  have B_4 := Lib.hid (B_3.out.keep k4)
  have C_4 := Lib.hid (C_3.out.keep k4)
  have D_4 := Lib.hid (D_3.out.keep k4)
  have KW_4 := Lib.hid (KW_3.out.trans k4)
  clear k4 T_3 X_3 X'_3 Y_3 Y'_3 Z_3 Z'_3 B_3 C_3 D_3 KW_3
  obtain ⟨B_c0, B_c1, B_c2, -, -, -, -⟩ := id B_4.out
  obtain ⟨C_c0, C_c1, C_c2, -, -, -, -⟩ := id C_4.out
  obtain ⟨D_c0, D_c1, D_c2, -, -, -, -⟩ := id D_4.out
  go_wp2_with fail
  go_ret
  exact ⟨rfl, KW_4.out⟩
set_option maxHeartbeats 4000000 in
theorem cmp_law_s0 {w : World} {s : Bool} {a a' : Option Addr} {n c n' c' : Nat} {lx lx' : List Nat} {t : Bool} {b b' : Option Addr} {m g m' g' : Nat} {ly ly' : List Nat} {o : Bool} {d d' : Option Addr} {i j i' j' : Nat} {lz lz' : List Nat} (hx : Rd w a n c lx) (hx' : Rd w a' n' c' lx') (hy : Rd w b m g ly) (hy' : Rd w b' m' g' ly') (hz : Rd w d i j lz) (hz' : Rd w d' i' j' lz') (hT : Tab w) (fx : (n ≤ 3 ∧ n' ≤ 3)) (fy : (m ≤ 3 ∧ m' ≤ 3)) (fz : (i ≤ 3 ∧ i' ≤ 3)) (h1 : ¬ rC (rv s (nv lx) (nv lx')) (rv t (nv ly) (nv ly')) ≤ 0) : Calls Tryd.prog 7 #[.agg #[.bool s, .slice a n c, .slice a' n' c'], .agg #[.bool t, .slice b m g, .slice b' m' g'], .agg #[.bool o, .slice d i j, .slice d' i' j']] w (BPost true w) := by
  obtain ⟨B_0, C_0, D_0, KW_0⟩ := ops3 w s a n c a' n' c' t b m g b' m' g' o d i j d' i' j'
  have T_0 := Lib.hid (hT.keep KW_0.out)
  have AW := Lib.hid (fun w1 (hT1 : Tab w1) => awake_c w1 hT1)
  have FX := Lib.hid (fun w1 (h : Rd w1 a n c lx) (h' : Rd w1 a' n' c' lx') => few_c (s := s) h h')
  rw [decide_eq_true fx] at FX
  have X_0 := Lib.hid (hx.below KW_0.out)
  have X'_0 := Lib.hid (hx'.below KW_0.out)
  have FY := Lib.hid (fun w1 (h : Rd w1 b m g ly) (h' : Rd w1 b' m' g' ly') => few_c (s := t) h h')
  rw [decide_eq_true fy] at FY
  have Y_0 := Lib.hid (hy.below KW_0.out)
  have Y'_0 := Lib.hid (hy'.below KW_0.out)
  have FZ := Lib.hid (fun w1 (h : Rd w1 d i j lz) (h' : Rd w1 d' i' j' lz') => few_c (s := o) h h')
  rw [decide_eq_true fz] at FZ
  have Z_0 := Lib.hid (hz.below KW_0.out)
  have Z'_0 := Lib.hid (hz'.below KW_0.out)
  have lX : lx.length ≤ 3 := by rw [hx.len_eq]; exact fx.1
  have lX' : lx'.length ≤ 3 := by rw [hx'.len_eq]; exact fx.2
  have nX : Ra w (.agg #[.bool s, .slice a n c, .slice a' n' c']) (rv s (nv lx) (nv lx')) 3 := ⟨_, _, _, _, _, rfl, hx.toNm rfl lX, hx'.toNm rfl lX', rfl⟩
  obtain ⟨p, hXq⟩ : ∃ q, rv s (nv lx) (nv lx') = q := ⟨_, rfl⟩
  rw [hXq] at nX h1
  have NX_0 := Lib.hid (nX.keep KW_0.out)
  have rbp := nX.rb (by omega)
  have lY : ly.length ≤ 3 := by rw [hy.len_eq]; exact fy.1
  have lY' : ly'.length ≤ 3 := by rw [hy'.len_eq]; exact fy.2
  have nY : Ra w (.agg #[.bool t, .slice b m g, .slice b' m' g']) (rv t (nv ly) (nv ly')) 3 := ⟨_, _, _, _, _, rfl, hy.toNm rfl lY, hy'.toNm rfl lY', rfl⟩
  obtain ⟨q, hYq⟩ : ∃ q, rv t (nv ly) (nv ly') = q := ⟨_, rfl⟩
  rw [hYq] at nY h1
  have NY_0 := Lib.hid (nY.keep KW_0.out)
  have rbq := nY.rb (by omega)
  have lZ : lz.length ≤ 3 := by rw [hz.len_eq]; exact fz.1
  have lZ' : lz'.length ≤ 3 := by rw [hz'.len_eq]; exact fz.2
  have nZ : Ra w (.agg #[.bool o, .slice d i j, .slice d' i' j']) (rv o (nv lz) (nv lz')) 3 := ⟨_, _, _, _, _, rfl, hz.toNm rfl lZ, hz'.toNm rfl lZ', rfl⟩
  obtain ⟨r, hZq⟩ : ∃ q, rv o (nv lz) (nv lz') = q := ⟨_, rfl⟩
  rw [hZq] at nZ
  have NZ_0 := Lib.hid (nZ.keep KW_0.out)
  have rbr := nZ.rb (by omega)
  have rb1 : Rb (p + r) 7 := (rbp.add rbr).up (by omega)
  have rb2 : Rb (q + r) 7 := (rbq.add rbr).up (by omega)
  have rb3 : Rb (p * r) 6 := (rbp.mul rbr (by omega)).up (by omega)
  have rb4 : Rb (q * r) 6 := (rbq.mul rbr (by omega)).up (by omega)
  have C1 := Lib.hid (fun w1 (hu : Ra w1 (.agg #[.bool s, .slice a n c, .slice a' n' c']) p 3) (hv : Ra w1 (.agg #[.bool t, .slice b m g, .slice b' m' g']) q 3) => qcmp_c (hu) (hv) (by omega) (by omega))
  have C2 := Lib.hid (fun w1 (hu : Ra w1 (.agg #[.bool s, .slice a n c, .slice a' n' c']) p 3) (hv : Ra w1 (.agg #[.bool t, .slice b m g, .slice b' m' g']) q 3) => rqcmp_c (hu) (hv) (by omega) (by omega))
  have C3 := Lib.hid (fun w1 (hu : Ra w1 (.agg #[.bool t, .slice b m g, .slice b' m' g']) q 3) (hv : Ra w1 (.agg #[.bool s, .slice a n c, .slice a' n' c']) p 3) => qcmp_c (hu) (hv) (by omega) (by omega))
  have C4 := Lib.hid (fun w1 (hu : Ra w1 (.agg #[.bool t, .slice b m g, .slice b' m' g']) q 3) (hv : Ra w1 (.agg #[.bool o, .slice d i j, .slice d' i' j']) r 3) => qcmp_c (hu) (hv) (by omega) (by omega))
  have C5 := Lib.hid (fun w1 (hu : Ra w1 (.agg #[.bool s, .slice a n c, .slice a' n' c']) p 3) (hv : Ra w1 (.agg #[.bool o, .slice d i j, .slice d' i' j']) r 3) => qcmp_c (hu) (hv) (by omega) (by omega))
  have MI := Lib.hid (fun w1 (hu : Ra w1 (.agg #[.bool s, .slice a n c, .slice a' n' c']) p 3) (hv : Ra w1 (.agg #[.bool t, .slice b m g, .slice b' m' g']) q 3) (hT1 : Tab w1) => qmin_c (hu) (hv) (by omega) (by omega) hT1)
  have RI := Lib.hid (fun w1 (hu : Ra w1 (.agg #[.bool s, .slice a n c, .slice a' n' c']) p 3) (hv : Ra w1 (.agg #[.bool t, .slice b m g, .slice b' m' g']) q 3) => rqmin_c (hu) (hv) (by omega) (by omega))
  have MA := Lib.hid (fun w1 (hu : Ra w1 (.agg #[.bool s, .slice a n c, .slice a' n' c']) p 3) (hv : Ra w1 (.agg #[.bool t, .slice b m g, .slice b' m' g']) q 3) (hT1 : Tab w1) => qmax_c (hu) (hv) (by omega) (by omega) hT1)
  have RA := Lib.hid (fun w1 (hu : Ra w1 (.agg #[.bool s, .slice a n c, .slice a' n' c']) p 3) (hv : Ra w1 (.agg #[.bool t, .slice b m g, .slice b' m' g']) q 3) => rqmax_c (hu) (hv) (by omega) (by omega))
  have A1 := Lib.hid (fun w1 (hu : Ra w1 (.agg #[.bool s, .slice a n c, .slice a' n' c']) p 3) (hv : Ra w1 (.agg #[.bool o, .slice d i j, .slice d' i' j']) r 3) (hT1 : Tab w1) => qadd_c (hu) (hv) (by omega) (by omega) hT1)
  have A2 := Lib.hid (fun w1 (hu : Ra w1 (.agg #[.bool t, .slice b m g, .slice b' m' g']) q 3) (hv : Ra w1 (.agg #[.bool o, .slice d i j, .slice d' i' j']) r 3) (hT1 : Tab w1) => qadd_c (hu) (hv) (by omega) (by omega) hT1)
  have C6 := Lib.hid (fun w1 u (hu : Cr w1 u (p + r)) v (hv : Cr w1 v (q + r)) => qcmp_c (hu.ra rb1) (hv.ra rb2) (by omega) (by omega))
  rw [rC_add] at C6
  have M1 := Lib.hid (fun w1 (hu : Ra w1 (.agg #[.bool s, .slice a n c, .slice a' n' c']) p 3) (hv : Ra w1 (.agg #[.bool o, .slice d i j, .slice d' i' j']) r 3) (hT1 : Tab w1) => qmul_c (hu) (hv) (by omega) (by omega) hT1)
  have M2 := Lib.hid (fun w1 (hu : Ra w1 (.agg #[.bool t, .slice b m g, .slice b' m' g']) q 3) (hv : Ra w1 (.agg #[.bool o, .slice d i j, .slice d' i' j']) r 3) (hT1 : Tab w1) => qmul_c (hu) (hv) (by omega) (by omega) hT1)
  have C7 := Lib.hid (fun w1 u (hu : Cr w1 u (p * r)) v (hv : Cr w1 v (q * r)) => qcmp_c (hu.ra rb3) (hv.ra rb4) (by omega) (by omega))
  rw [rC_mul] at C7
  have SG := Lib.hid (fun w1 (h : Ra w1 (.agg #[.bool o, .slice d i j, .slice d' i' j']) r 3) => qsign_c h (by omega))
  obtain ⟨mn, hmn⟩ : ∃ x, (if rC p q ≤ 0 then p else q) = x := ⟨_, rfl⟩
  rw [hmn] at MI RI
  obtain ⟨mx, hmx⟩ : ∃ x, (if 0 ≤ rC p q then p else q) = x := ⟨_, rfl⟩
  rw [hmx] at MA RA
  have w1 := rC_wrap p q
  have m1 := mul_range (rC_range p q) (rS_range r)
  have m2 := mul_range' (rC_range p q) (rS_range r)
  obtain ⟨z, hzv⟩ : ∃ z, rC p q = z := ⟨_, rfl⟩
  obtain ⟨zn, hzn⟩ : ∃ z, rC q p = z := ⟨_, rfl⟩
  obtain ⟨y, hyv⟩ : ∃ z, rC q r = z := ⟨_, rfl⟩
  obtain ⟨x, hxv⟩ : ∃ z, rC p r = z := ⟨_, rfl⟩
  obtain ⟨sg, hsg⟩ : ∃ z, rS r = z := ⟨_, rfl⟩
  rw [hzv] at C1 C2 C6 C7 w1 m1 m2 h1
  rw [hzn] at C3 w1
  rw [hyv] at C4
  rw [hxv] at C5
  rw [hsg] at SG C7 m1 m2
  obtain ⟨w1, w2⟩ := w1
  obtain ⟨ms, hms⟩ : ∃ m, z * sg = m := ⟨_, rfl⟩
  rw [hms] at C7
  have m3 : wrap64 (z * sg) = ms := m1.trans hms
  have m4 : IntKind.i64.wrap (z * sg) = ms := m2.trans hms
  have d1 : decide (z ≤ 0) = false := decide_eq_false h1
  clear hT hx hx' fx lX lX' nX hy hy' fy lY lY' nY hz hz' fz lZ lZ' nZ hXq hYq hZq rbp rbq rbr rb1 rb2 rb3 rb4 hmn hmx hzv hzn hyv hxv hsg hms m1 m2 h1
  go_enter Tryd.func7, Tryd.ntmps7
  obtain ⟨B_c0, B_c1, B_c2, -, -, -, -⟩ := id B_0.out
  obtain ⟨C_c0, C_c1, C_c2, -, -, -, -⟩ := id C_0.out
  obtain ⟨D_c0, D_c1, D_c2, -, -, -, -⟩ := id D_0.out
  go_wp2_with fail
  refine Calls.mono (AW.out _ T_0.out) ?_
  rintro e w1 ⟨rfl, k1⟩
  clear B_c0 B_c1 B_c2 C_c0 C_c1 C_c2 D_c0 D_c1 D_c2
  have T_1 := Lib.hid (T_0.out.keep k1)
  have X_1 := Lib.hid (X_0.out.keep k1)
  have X'_1 := Lib.hid (X'_0.out.keep k1)
  have NX_1 := Lib.hid (NX_0.out.keep k1)
  have Y_1 := Lib.hid (Y_0.out.keep k1)
  have Y'_1 := Lib.hid (Y'_0.out.keep k1)
  have NY_1 := Lib.hid (NY_0.out.keep k1)
  have Z_1 := Lib.hid (Z_0.out.keep k1)
  have Z'_1 := Lib.hid (Z'_0.out.keep k1)
  have NZ_1 := Lib.hid (NZ_0.out.keep k1)
  have B_1 := Lib.hid (B_0.out.keep k1)
  have C_1 := Lib.hid (C_0.out.keep k1)
  have D_1 := Lib.hid (D_0.out.keep k1)
  have KW_1 := Lib.hid (KW_0.out.trans k1)
  clear k1 T_0 X_0 X'_0 NX_0 Y_0 Y'_0 NY_0 Z_0 Z'_0 NZ_0 B_0 C_0 D_0 KW_0
  obtain ⟨B_c0, B_c1, B_c2, -, -, -, -⟩ := id B_1.out
  obtain ⟨C_c0, C_c1, C_c2, -, -, -, -⟩ := id C_1.out
  obtain ⟨D_c0, D_c1, D_c2, -, -, -, -⟩ := id D_1.out
  go_wp2_with fail
  refine Calls.mono (FX.out _ X_1.out X'_1.out) ?_
  rintro e w2 ⟨rfl, k2⟩
  clear B_c0 B_c1 B_c2 C_c0 C_c1 C_c2 D_c0 D_c1 D_c2
  have T_2 := Lib.hid (T_1.out.keep k2)
  have X_2 := Lib.hid (X_1.out.keep k2)
  have X'_2 := Lib.hid (X'_1.out.keep k2)
  have NX_2 := Lib.hid (NX_1.out.keep k2)
  have Y_2 := Lib.hid (Y_1.out.keep k2)
  have Y'_2 := Lib.hid (Y'_1.out.keep k2)
  have NY_2 := Lib.hid (NY_1.out.keep k2)
  have Z_2 := Lib.hid (Z_1.out.keep k2)
  have Z'_2 := Lib.hid (Z'_1.out.keep k2)
  have NZ_2 := Lib.hid (NZ_1.out.keep k2)
  have B_2 := Lib.hid (B_1.out.keep k2)
  have C_2 := Lib.hid (C_1.out.keep k2)
  have D_2 := Lib.hid (D_1.out.keep k2)
  have KW_2 := Lib.hid (KW_1.out.trans k2)
  clear k2 T_1 X_1 X'_1 NX_1 Y_1 Y'_1 NY_1 Z_1 Z'_1 NZ_1 B_1 C_1 D_1 KW_1
  obtain ⟨B_c0, B_c1, B_c2, -, -, -, -⟩ := id B_2.out
  obtain ⟨C_c0, C_c1, C_c2, -, -, -, -⟩ := id C_2.out
  obtain ⟨D_c0, D_c1, D_c2, -, -, -, -⟩ := id D_2.out
  go_wp2_with fail
  refine Calls.mono (FY.out _ Y_2.out Y'_2.out) ?_
  rintro e w3 ⟨rfl, k3⟩
  clear B_c0 B_c1 B_c2 C_c0 C_c1 C_c2 D_c0 D_c1 D_c2
  have T_3 := Lib.hid (T_2.out.keep k3)
  have X_3 := Lib.hid (X_2.out.keep k3)
  have X'_3 := Lib.hid (X'_2.out.keep k3)
  have NX_3 := Lib.hid (NX_2.out.keep k3)
  have Y_3 := Lib.hid (Y_2.out.keep k3)
  have Y'_3 := Lib.hid (Y'_2.out.keep k3)
  have NY_3 := Lib.hid (NY_2.out.keep k3)
  have Z_3 := Lib.hid (Z_2.out.keep k3)
  have Z'_3 := Lib.hid (Z'_2.out.keep k3)
  have NZ_3 := Lib.hid (NZ_2.out.keep k3)
  have B_3 := Lib.hid (B_2.out.keep k3)
  have C_3 := Lib.hid (C_2.out.keep k3)
  have D_3 := Lib.hid (D_2.out.keep k3)
  have KW_3 := Lib.hid (KW_2.out.trans k3)
  clear k3 T_2 X_2 X'_2 NX_2 Y_2 Y'_2 NY_2 Z_2 Z'_2 NZ_2 B_2 C_2 D_2 KW_2
  obtain ⟨B_c0, B_c1, B_c2, -, -, -, -⟩ := id B_3.out
  obtain ⟨C_c0, C_c1, C_c2, -, -, -, -⟩ := id C_3.out
  obtain ⟨D_c0, D_c1, D_c2, -, -, -, -⟩ := id D_3.out
  go_wp2_with fail
  refine Calls.mono (FZ.out _ Z_3.out Z'_3.out) ?_
  rintro e w4 ⟨rfl, k4⟩
  clear B_c0 B_c1 B_c2 C_c0 C_c1 C_c2 D_c0 D_c1 D_c2
  have T_4 := Lib.hid (T_3.out.keep k4)
  have X_4 := Lib.hid (X_3.out.keep k4)
  have X'_4 := Lib.hid (X'_3.out.keep k4)
  have NX_4 := Lib.hid (NX_3.out.keep k4)
  have Y_4 := Lib.hid (Y_3.out.keep k4)
  have Y'_4 := Lib.hid (Y'_3.out.keep k4)
  have NY_4 := Lib.hid (NY_3.out.keep k4)
  have Z_4 := Lib.hid (Z_3.out.keep k4)
  have Z'_4 := Lib.hid (Z'_3.out.keep k4)
  have NZ_4 := Lib.hid (NZ_3.out.keep k4)
  have B_4 := Lib.hid (B_3.out.keep k4)
  have C_4 := Lib.hid (C_3.out.keep k4)
  have D_4 := Lib.hid (D_3.out.keep k4)
  have KW_4 := Lib.hid (KW_3.out.trans k4)
  clear k4 T_3 X_3 X'_3 NX_3 Y_3 Y'_3 NY_3 Z_3 Z'_3 NZ_3 B_3 C_3 D_3 KW_3
  clear AW FX FY FZ
  clear X_4 X'_4 Y_4 Y'_4 Z_4 Z'_4
  obtain ⟨B_c0, B_c1, B_c2, -, -, -, -⟩ := id B_4.out
  obtain ⟨C_c0, C_c1, C_c2, -, -, -, -⟩ := id C_4.out
  obtain ⟨D_c0, D_c1, D_c2, -, -, -, -⟩ := id D_4.out
  go_wp2_with fail
  refine Calls.mono (C1.out _ NX_4.out NY_4.out) ?_
  rintro e w5 ⟨rfl, k5⟩
  clear B_c0 B_c1 B_c2 C_c0 C_c1 C_c2 D_c0 D_c1 D_c2
  have T_5 := Lib.hid (T_4.out.keep k5)
  have NX_5 := Lib.hid (NX_4.out.keep k5)
  have NY_5 := Lib.hid (NY_4.out.keep k5)
  have NZ_5 := Lib.hid (NZ_4.out.keep k5)
  have B_5 := Lib.hid (B_4.out.keep k5)
  have C_5 := Lib.hid (C_4.out.keep k5)
  have D_5 := Lib.hid (D_4.out.keep k5)
  have KW_5 := Lib.hid (KW_4.out.trans k5)
  clear k5 T_4 NX_4 NY_4 NZ_4 B_4 C_4 D_4 KW_4
  obtain ⟨B_c0, B_c1, B_c2, -, -, -, -⟩ := id B_5.out
  obtain ⟨C_c0, C_c1, C_c2, -, -, -, -⟩ := id C_5.out
  obtain ⟨D_c0, D_c1, D_c2, -, -, -, -⟩ := id D_5.out
  go_wp2_with fail
  refine Calls.mono (C2.out _ NX_5.out NY_5.out) ?_
  rintro e w6 ⟨rfl, k6⟩
  clear B_c0 B_c1 B_c2 C_c0 C_c1 C_c2 D_c0 D_c1 D_c2
  have T_6 := Lib.hid (T_5.out.keep k6)
  have NX_6 := Lib.hid (NX_5.out.keep k6)
  have NY_6 := Lib.hid (NY_5.out.keep k6)
  have NZ_6 := Lib.hid (NZ_5.out.keep k6)
  have B_6 := Lib.hid (B_5.out.keep k6)
  have C_6 := Lib.hid (C_5.out.keep k6)
  have D_6 := Lib.hid (D_5.out.keep k6)
  have KW_6 := Lib.hid (KW_5.out.trans k6)
  clear k6 T_5 NX_5 NY_5 NZ_5 B_5 C_5 D_5 KW_5
  obtain ⟨B_c0, B_c1, B_c2, -, -, -, -⟩ := id B_6.out
  obtain ⟨C_c0, C_c1, C_c2, -, -, -, -⟩ := id C_6.out
  obtain ⟨D_c0, D_c1, D_c2, -, -, -, -⟩ := id D_6.out
  go_wp2_with fail
  refine Calls.mono (C3.out _ NY_6.out NX_6.out) ?_
  rintro e w7 ⟨rfl, k7⟩
  clear B_c0 B_c1 B_c2 C_c0 C_c1 C_c2 D_c0 D_c1 D_c2
  have T_7 := Lib.hid (T_6.out.keep k7)
  have NX_7 := Lib.hid (NX_6.out.keep k7)
  have NY_7 := Lib.hid (NY_6.out.keep k7)
  have NZ_7 := Lib.hid (NZ_6.out.keep k7)
  have B_7 := Lib.hid (B_6.out.keep k7)
  have C_7 := Lib.hid (C_6.out.keep k7)
  have D_7 := Lib.hid (D_6.out.keep k7)
  have KW_7 := Lib.hid (KW_6.out.trans k7)
  clear k7 T_6 NX_6 NY_6 NZ_6 B_6 C_6 D_6 KW_6
  clear C1 C2 C3 C4 C5
  obtain ⟨oB_0, oB_1, oB_2, -, -, -, -⟩ := id B_7.out
  obtain ⟨oC_0, oC_1, oC_2, -, -, -, -⟩ := id C_7.out
  obtain ⟨oD_0, oD_1, oD_2, -, -, -, -⟩ := id D_7.out
  have T_8 := Lib.hid (T_7.out.keep (keep_drew _))
  clear T_7
  have NX_8 := Lib.hid (NX_7.out.keep (keep_drew _))
  clear NX_7
  have NY_8 := Lib.hid (NY_7.out.keep (keep_drew _))
  clear NY_7
  have NZ_8 := Lib.hid (NZ_7.out.keep (keep_drew _))
  clear NZ_7
  have B_8 := Lib.hid (B_7.out.keep (keep_drew _))
  clear B_7
  have C_8 := Lib.hid (C_7.out.keep (keep_drew _))
  clear C_7
  have D_8 := Lib.hid (D_7.out.keep (keep_drew _))
  clear D_7
  have KW_8 := Lib.hid (KW_7.out.trans (keep_drew _))
  clear KW_7
  obtain ⟨cB_8_0, cB_8_1, cB_8_2, -, -, -, -⟩ := id B_8.out
  obtain ⟨cC_8_0, cC_8_1, cC_8_2, -, -, -, -⟩ := id C_8.out
  go_wp2
  go_region_held3 (fun w' => w'.cell? ⟨w.heap.size, 0, none⟩ = some (.bool s) ∧ w'.cell? ⟨w.heap.size, 1, none⟩ = some (.slice a n c) ∧ w'.cell? ⟨w.heap.size, 2, none⟩ = some (.slice a' n' c') ∧ w'.cell? ⟨w.heap.size + 1, 0, none⟩ = some (.bool t) ∧ w'.cell? ⟨w.heap.size + 1, 1, none⟩ = some (.slice b m g) ∧ w'.cell? ⟨w.heap.size + 1, 2, none⟩ = some (.slice b' m' g')) (first | exact ⟨cB_14_0, cB_14_1, cB_14_2, cC_14_0, cC_14_1, cC_14_2⟩ | exact ⟨cB_13_0, cB_13_1, cB_13_2, cC_13_0, cC_13_1, cC_13_2⟩ | exact ⟨cB_12_0, cB_12_1, cB_12_2, cC_12_0, cC_12_1, cC_12_2⟩ | exact ⟨cB_11_0, cB_11_1, cB_11_2, cC_11_0, cC_11_1, cC_11_2⟩ | exact ⟨cB_10_0, cB_10_1, cB_10_2, cC_10_0, cC_10_1, cC_10_2⟩ | exact ⟨cB_9_0, cB_9_1, cB_9_2, cC_9_0, cC_9_1, cC_9_2⟩ | exact ⟨cB_8_0, cB_8_1, cB_8_2, cC_8_0, cC_8_1, cC_8_2⟩ | go_keep)
    (first
      | (go_at_call 14; ((with_reducible refine Calls.mono (qsame_t F_13.out G_13.out) ?_); rintro e w14 ⟨rfl, k14⟩; have T_14 := Lib.hid (T_13.out.keep k14); have NX_14 := Lib.hid (NX_13.out.keep k14); have NY_14 := Lib.hid (NY_13.out.keep k14); have NZ_14 := Lib.hid (NZ_13.out.keep k14); have B_14 := Lib.hid (B_13.out.keep k14); have C_14 := Lib.hid (C_13.out.keep k14); have D_14 := Lib.hid (D_13.out.keep k14); have A_14 := Lib.hid (A_13.out.keep k14); have E_14 := Lib.hid (E_13.out.keep k14); have F_14 := Lib.hid (F_13.out.keep k14); have G_14 := Lib.hid (G_13.out.keep k14); have KW_14 := Lib.hid (KW_13.out.trans k14); obtain ⟨cB_14_0, cB_14_1, cB_14_2, -, -, -, -⟩ := id B_14.out; obtain ⟨cC_14_0, cC_14_1, cC_14_2, -, -, -, -⟩ := id C_14.out; clear k14))
      | (go_at_call 43; ((with_reducible refine Calls.mono (RA.out _ NX_12.out NY_12.out) ?_); rintro e w13 ⟨x4, rfl, hD, k13⟩; have T_13 := Lib.hid (T_12.out.keep k13); have NX_13 := Lib.hid (NX_12.out.keep k13); have NY_13 := Lib.hid (NY_12.out.keep k13); have NZ_13 := Lib.hid (NZ_12.out.keep k13); have B_13 := Lib.hid (B_12.out.keep k13); have C_13 := Lib.hid (C_12.out.keep k13); have D_13 := Lib.hid (D_12.out.keep k13); have A_13 := Lib.hid (A_12.out.keep k13); have E_13 := Lib.hid (E_12.out.keep k13); have F_13 := Lib.hid (F_12.out.keep k13); have G_13 := Lib.hid hD; clear hD; have KW_13 := Lib.hid (KW_12.out.trans k13); obtain ⟨cB_13_0, cB_13_1, cB_13_2, -, -, -, -⟩ := id B_13.out; obtain ⟨cC_13_0, cC_13_1, cC_13_2, -, -, -, -⟩ := id C_13.out; clear k13))
      | (go_at_call 42; ((with_reducible refine Calls.mono (MA.out _ NX_11.out NY_11.out T_11.out) ?_); rintro e w12 ⟨x3, rfl, hC, k12⟩; have T_12 := Lib.hid (T_11.out.keep k12); have NX_12 := Lib.hid (NX_11.out.keep k12); have NY_12 := Lib.hid (NY_11.out.keep k12); have NZ_12 := Lib.hid (NZ_11.out.keep k12); have B_12 := Lib.hid (B_11.out.keep k12); have C_12 := Lib.hid (C_11.out.keep k12); have D_12 := Lib.hid (D_11.out.keep k12); have A_12 := Lib.hid (A_11.out.keep k12); have E_12 := Lib.hid (E_11.out.keep k12); have F_12 := Lib.hid hC; clear hC; have KW_12 := Lib.hid (KW_11.out.trans k12); obtain ⟨cB_12_0, cB_12_1, cB_12_2, -, -, -, -⟩ := id B_12.out; obtain ⟨cC_12_0, cC_12_1, cC_12_2, -, -, -, -⟩ := id C_12.out; clear k12))
      | (go_at_call 14; ((with_reducible refine Calls.mono (qsame_t A_10.out E_10.out) ?_); rintro e w11 ⟨rfl, k11⟩; have T_11 := Lib.hid (T_10.out.keep k11); have NX_11 := Lib.hid (NX_10.out.keep k11); have NY_11 := Lib.hid (NY_10.out.keep k11); have NZ_11 := Lib.hid (NZ_10.out.keep k11); have B_11 := Lib.hid (B_10.out.keep k11); have C_11 := Lib.hid (C_10.out.keep k11); have D_11 := Lib.hid (D_10.out.keep k11); have A_11 := Lib.hid (A_10.out.keep k11); have E_11 := Lib.hid (E_10.out.keep k11); have KW_11 := Lib.hid (KW_10.out.trans k11); obtain ⟨cB_11_0, cB_11_1, cB_11_2, -, -, -, -⟩ := id B_11.out; obtain ⟨cC_11_0, cC_11_1, cC_11_2, -, -, -, -⟩ := id C_11.out; clear k11))
      | (go_at_call 41; ((with_reducible refine Calls.mono (RI.out _ NX_9.out NY_9.out) ?_); rintro e w10 ⟨x2, rfl, hB, k10⟩; have T_10 := Lib.hid (T_9.out.keep k10); have NX_10 := Lib.hid (NX_9.out.keep k10); have NY_10 := Lib.hid (NY_9.out.keep k10); have NZ_10 := Lib.hid (NZ_9.out.keep k10); have B_10 := Lib.hid (B_9.out.keep k10); have C_10 := Lib.hid (C_9.out.keep k10); have D_10 := Lib.hid (D_9.out.keep k10); have A_10 := Lib.hid (A_9.out.keep k10); have E_10 := Lib.hid hB; clear hB; have KW_10 := Lib.hid (KW_9.out.trans k10); obtain ⟨cB_10_0, cB_10_1, cB_10_2, -, -, -, -⟩ := id B_10.out; obtain ⟨cC_10_0, cC_10_1, cC_10_2, -, -, -, -⟩ := id C_10.out; clear k10))
      | (go_at_call 40; ((with_reducible refine Calls.mono (MI.out _ NX_8.out NY_8.out T_8.out) ?_); rintro e w9 ⟨x1, rfl, hA, k9⟩; have T_9 := Lib.hid (T_8.out.keep k9); have NX_9 := Lib.hid (NX_8.out.keep k9); have NY_9 := Lib.hid (NY_8.out.keep k9); have NZ_9 := Lib.hid (NZ_8.out.keep k9); have B_9 := Lib.hid (B_8.out.keep k9); have C_9 := Lib.hid (C_8.out.keep k9); have D_9 := Lib.hid (D_8.out.keep k9); have A_9 := Lib.hid hA; clear hA; have KW_9 := Lib.hid (KW_8.out.trans k9); obtain ⟨cB_9_0, cB_9_1, cB_9_2, -, -, -, -⟩ := id B_9.out; obtain ⟨cC_9_0, cC_9_1, cC_9_2, -, -, -, -⟩ := id C_9.out; clear k9)))
  clear cB_14_0 cB_14_1 cB_14_2 cC_14_0 cC_14_1 cC_14_2 cB_13_0 cB_13_1 cB_13_2 cC_13_0 cC_13_1 cC_13_2 cB_12_0 cB_12_1 cB_12_2 cC_12_0 cC_12_1 cC_12_2 cB_11_0 cB_11_1 cB_11_2 cC_11_0 cC_11_1 cC_11_2 cB_10_0 cB_10_1 cB_10_2 cC_10_0 cC_10_1 cC_10_2 cB_9_0 cB_9_1 cB_9_2 cC_9_0 cC_9_1 cC_9_2 cB_8_0 cB_8_1 cB_8_2 cC_8_0 cC_8_1 cC_8_2 oB_0 oB_1 oB_2 oC_0 oC_1 oC_2 oD_0 oD_1 oD_2
  clear MI RI MA RA
  clear A_14 E_14 F_14 G_14
  have T_15 := Lib.hid (T_14.out.keep (keep_drew _))
  clear T_14
  have NX_15 := Lib.hid (NX_14.out.keep (keep_drew _))
  clear NX_14
  have NY_15 := Lib.hid (NY_14.out.keep (keep_drew _))
  clear NY_14
  have NZ_15 := Lib.hid (NZ_14.out.keep (keep_drew _))
  clear NZ_14
  have B_15 := Lib.hid (B_14.out.keep (keep_drew _))
  clear B_14
  have C_15 := Lib.hid (C_14.out.keep (keep_drew _))
  clear C_14
  have D_15 := Lib.hid (D_14.out.keep (keep_drew _))
  clear D_14
  have KW_15 := Lib.hid (KW_14.out.trans (keep_drew _))
  clear KW_14
  obtain ⟨cB_15_0, cB_15_1, cB_15_2, -, -, -, -⟩ := id B_15.out
  obtain ⟨cC_15_0, cC_15_1, cC_15_2, -, -, -, -⟩ := id C_15.out
  obtain ⟨cD_15_0, cD_15_1, cD_15_2, -, -, -, -⟩ := id D_15.out
  go_wp2
  go_region_held3 (fun w' => w'.cell? ⟨w.heap.size, 0, none⟩ = some (.bool s) ∧ w'.cell? ⟨w.heap.size, 1, none⟩ = some (.slice a n c) ∧ w'.cell? ⟨w.heap.size, 2, none⟩ = some (.slice a' n' c') ∧ w'.cell? ⟨w.heap.size + 1, 0, none⟩ = some (.bool t) ∧ w'.cell? ⟨w.heap.size + 1, 1, none⟩ = some (.slice b m g) ∧ w'.cell? ⟨w.heap.size + 1, 2, none⟩ = some (.slice b' m' g') ∧ w'.cell? ⟨w.heap.size + 1 + 1, 0, none⟩ = some (.bool o) ∧ w'.cell? ⟨w.heap.size + 1 + 1, 1, none⟩ = some (.slice d i j) ∧ w'.cell? ⟨w.heap.size + 1 + 1, 2, none⟩ = some (.slice d' i' j')) (first | exact ⟨cB_22_0, cB_22_1, cB_22_2, cC_22_0, cC_22_1, cC_22_2, cD_22_0, cD_22_1, cD_22_2⟩ | exact ⟨cB_21_0, cB_21_1, cB_21_2, cC_21_0, cC_21_1, cC_21_2, cD_21_0, cD_21_1, cD_21_2⟩ | exact ⟨cB_20_0, cB_20_1, cB_20_2, cC_20_0, cC_20_1, cC_20_2, cD_20_0, cD_20_1, cD_20_2⟩ | exact ⟨cB_19_0, cB_19_1, cB_19_2, cC_19_0, cC_19_1, cC_19_2, cD_19_0, cD_19_1, cD_19_2⟩ | exact ⟨cB_18_0, cB_18_1, cB_18_2, cC_18_0, cC_18_1, cC_18_2, cD_18_0, cD_18_1, cD_18_2⟩ | exact ⟨cB_17_0, cB_17_1, cB_17_2, cC_17_0, cC_17_1, cC_17_2, cD_17_0, cD_17_1, cD_17_2⟩ | exact ⟨cB_16_0, cB_16_1, cB_16_2, cC_16_0, cC_16_1, cC_16_2, cD_16_0, cD_16_1, cD_16_2⟩ | exact ⟨cB_15_0, cB_15_1, cB_15_2, cC_15_0, cC_15_1, cC_15_2, cD_15_0, cD_15_1, cD_15_2⟩ | go_keep)
    (first
      | (go_at_call 24; ((with_reducible refine Calls.mono (SG.out _ NZ_21.out) ?_); rintro e w22 ⟨rfl, k22⟩; have T_22 := Lib.hid (T_21.out.keep k22); have NX_22 := Lib.hid (NX_21.out.keep k22); have NY_22 := Lib.hid (NY_21.out.keep k22); have NZ_22 := Lib.hid (NZ_21.out.keep k22); have B_22 := Lib.hid (B_21.out.keep k22); have C_22 := Lib.hid (C_21.out.keep k22); have D_22 := Lib.hid (D_21.out.keep k22); have A_22 := Lib.hid (A_21.out.keep k22); have E_22 := Lib.hid (E_21.out.keep k22); have F_22 := Lib.hid (F_21.out.keep k22); have G_22 := Lib.hid (G_21.out.keep k22); have KW_22 := Lib.hid (KW_21.out.trans k22); obtain ⟨cB_22_0, cB_22_1, cB_22_2, -, -, -, -⟩ := id B_22.out; obtain ⟨cC_22_0, cC_22_1, cC_22_2, -, -, -, -⟩ := id C_22.out; obtain ⟨cD_22_0, cD_22_1, cD_22_2, -, -, -, -⟩ := id D_22.out; clear k22))
      | (go_at_call 38; ((with_reducible refine Calls.mono (C7.out _ _ F_20.out _ G_20.out) ?_); rintro e w21 ⟨rfl, k21⟩; have T_21 := Lib.hid (T_20.out.keep k21); have NX_21 := Lib.hid (NX_20.out.keep k21); have NY_21 := Lib.hid (NY_20.out.keep k21); have NZ_21 := Lib.hid (NZ_20.out.keep k21); have B_21 := Lib.hid (B_20.out.keep k21); have C_21 := Lib.hid (C_20.out.keep k21); have D_21 := Lib.hid (D_20.out.keep k21); have A_21 := Lib.hid (A_20.out.keep k21); have E_21 := Lib.hid (E_20.out.keep k21); have F_21 := Lib.hid (F_20.out.keep k21); have G_21 := Lib.hid (G_20.out.keep k21); have KW_21 := Lib.hid (KW_20.out.trans k21); obtain ⟨cB_21_0, cB_21_1, cB_21_2, -, -, -, -⟩ := id B_21.out; obtain ⟨cC_21_0, cC_21_1, cC_21_2, -, -, -, -⟩ := id C_21.out; obtain ⟨cD_21_0, cD_21_1, cD_21_2, -, -, -, -⟩ := id D_21.out; clear k21))
      | (go_at_call 29; ((with_reducible refine Calls.mono (M2.out _ NY_19.out NZ_19.out T_19.out) ?_); rintro e w20 ⟨x8, rfl, hD, k20⟩; have T_20 := Lib.hid (T_19.out.keep k20); have NX_20 := Lib.hid (NX_19.out.keep k20); have NY_20 := Lib.hid (NY_19.out.keep k20); have NZ_20 := Lib.hid (NZ_19.out.keep k20); have B_20 := Lib.hid (B_19.out.keep k20); have C_20 := Lib.hid (C_19.out.keep k20); have D_20 := Lib.hid (D_19.out.keep k20); have A_20 := Lib.hid (A_19.out.keep k20); have E_20 := Lib.hid (E_19.out.keep k20); have F_20 := Lib.hid (F_19.out.keep k20); have G_20 := Lib.hid hD; clear hD; have KW_20 := Lib.hid (KW_19.out.trans k20); obtain ⟨cB_20_0, cB_20_1, cB_20_2, -, -, -, -⟩ := id B_20.out; obtain ⟨cC_20_0, cC_20_1, cC_20_2, -, -, -, -⟩ := id C_20.out; obtain ⟨cD_20_0, cD_20_1, cD_20_2, -, -, -, -⟩ := id D_20.out; clear k20))
      | (go_at_call 29; ((with_reducible refine Calls.mono (M1.out _ NX_18.out NZ_18.out T_18.out) ?_); rintro e w19 ⟨x7, rfl, hC, k19⟩; have T_19 := Lib.hid (T_18.out.keep k19); have NX_19 := Lib.hid (NX_18.out.keep k19); have NY_19 := Lib.hid (NY_18.out.keep k19); have NZ_19 := Lib.hid (NZ_18.out.keep k19); have B_19 := Lib.hid (B_18.out.keep k19); have C_19 := Lib.hid (C_18.out.keep k19); have D_19 := Lib.hid (D_18.out.keep k19); have A_19 := Lib.hid (A_18.out.keep k19); have E_19 := Lib.hid (E_18.out.keep k19); have F_19 := Lib.hid hC; clear hC; have KW_19 := Lib.hid (KW_18.out.trans k19); obtain ⟨cB_19_0, cB_19_1, cB_19_2, -, -, -, -⟩ := id B_19.out; obtain ⟨cC_19_0, cC_19_1, cC_19_2, -, -, -, -⟩ := id C_19.out; obtain ⟨cD_19_0, cD_19_1, cD_19_2, -, -, -, -⟩ := id D_19.out; clear k19))
      | (go_at_call 38; ((with_reducible refine Calls.mono (C6.out _ _ A_17.out _ E_17.out) ?_); rintro e w18 ⟨rfl, k18⟩; have T_18 := Lib.hid (T_17.out.keep k18); have NX_18 := Lib.hid (NX_17.out.keep k18); have NY_18 := Lib.hid (NY_17.out.keep k18); have NZ_18 := Lib.hid (NZ_17.out.keep k18); have B_18 := Lib.hid (B_17.out.keep k18); have C_18 := Lib.hid (C_17.out.keep k18); have D_18 := Lib.hid (D_17.out.keep k18); have A_18 := Lib.hid (A_17.out.keep k18); have E_18 := Lib.hid (E_17.out.keep k18); have KW_18 := Lib.hid (KW_17.out.trans k18); obtain ⟨cB_18_0, cB_18_1, cB_18_2, -, -, -, -⟩ := id B_18.out; obtain ⟨cC_18_0, cC_18_1, cC_18_2, -, -, -, -⟩ := id C_18.out; obtain ⟨cD_18_0, cD_18_1, cD_18_2, -, -, -, -⟩ := id D_18.out; clear k18))
      | (go_at_call 32; ((with_reducible refine Calls.mono (A2.out _ NY_16.out NZ_16.out T_16.out) ?_); rintro e w17 ⟨x6, rfl, hB, k17⟩; have T_17 := Lib.hid (T_16.out.keep k17); have NX_17 := Lib.hid (NX_16.out.keep k17); have NY_17 := Lib.hid (NY_16.out.keep k17); have NZ_17 := Lib.hid (NZ_16.out.keep k17); have B_17 := Lib.hid (B_16.out.keep k17); have C_17 := Lib.hid (C_16.out.keep k17); have D_17 := Lib.hid (D_16.out.keep k17); have A_17 := Lib.hid (A_16.out.keep k17); have E_17 := Lib.hid hB; clear hB; have KW_17 := Lib.hid (KW_16.out.trans k17); obtain ⟨cB_17_0, cB_17_1, cB_17_2, -, -, -, -⟩ := id B_17.out; obtain ⟨cC_17_0, cC_17_1, cC_17_2, -, -, -, -⟩ := id C_17.out; obtain ⟨cD_17_0, cD_17_1, cD_17_2, -, -, -, -⟩ := id D_17.out; clear k17))
      | (go_at_call 32; ((with_reducible refine Calls.mono (A1.out _ NX_15.out NZ_15.out T_15.out) ?_); rintro e w16 ⟨x5, rfl, hA, k16⟩; have T_16 := Lib.hid (T_15.out.keep k16); have NX_16 := Lib.hid (NX_15.out.keep k16); have NY_16 := Lib.hid (NY_15.out.keep k16); have NZ_16 := Lib.hid (NZ_15.out.keep k16); have B_16 := Lib.hid (B_15.out.keep k16); have C_16 := Lib.hid (C_15.out.keep k16); have D_16 := Lib.hid (D_15.out.keep k16); have A_16 := Lib.hid hA; clear hA; have KW_16 := Lib.hid (KW_15.out.trans k16); obtain ⟨cB_16_0, cB_16_1, cB_16_2, -, -, -, -⟩ := id B_16.out; obtain ⟨cC_16_0, cC_16_1, cC_16_2, -, -, -, -⟩ := id C_16.out; obtain ⟨cD_16_0, cD_16_1, cD_16_2, -, -, -, -⟩ := id D_16.out; clear k16)))
  clear cB_22_0 cB_22_1 cB_22_2 cC_22_0 cC_22_1 cC_22_2 cD_22_0 cD_22_1 cD_22_2 cB_21_0 cB_21_1 cB_21_2 cC_21_0 cC_21_1 cC_21_2 cD_21_0 cD_21_1 cD_21_2 cB_20_0 cB_20_1 cB_20_2 cC_20_0 cC_20_1 cC_20_2 cD_20_0 cD_20_1 cD_20_2 cB_19_0 cB_19_1 cB_19_2 cC_19_0 cC_19_1 cC_19_2 cD_19_0 cD_19_1 cD_19_2 cB_18_0 cB_18_1 cB_18_2 cC_18_0 cC_18_1 cC_18_2 cD_18_0 cD_18_1 cD_18_2 cB_17_0 cB_17_1 cB_17_2 cC_17_0 cC_17_1 cC_17_2 cD_17_0 cD_17_1 cD_17_2 cB_16_0 cB_16_1 cB_16_2 cC_16_0 cC_16_1 cC_16_2 cD_16_0 cD_16_1 cD_16_2 cB_15_0 cB_15_1 cB_15_2 cC_15_0 cC_15_1 cC_15_2 cD_15_0 cD_15_1 cD_15_2
  all_goals
    go_wp2_with fail
    go_ret
    exact ⟨rfl, KW_22.out⟩
set_option maxHeartbeats 4000000 in
theorem cmp_law_s1 {w : World} {s : Bool} {a a' : Option Addr} {n c n' c' : Nat} {lx lx' : List Nat} {t : Bool} {b b' : Option Addr} {m g m' g' : Nat} {ly ly' : List Nat} {o : Bool} {d d' : Option Addr} {i j i' j' : Nat} {lz lz' : List Nat} (hx : Rd w a n c lx) (hx' : Rd w a' n' c' lx') (hy : Rd w b m g ly) (hy' : Rd w b' m' g' ly') (hz : Rd w d i j lz) (hz' : Rd w d' i' j' lz') (hT : Tab w) (fx : (n ≤ 3 ∧ n' ≤ 3)) (fy : (m ≤ 3 ∧ m' ≤ 3)) (fz : (i ≤ 3 ∧ i' ≤ 3)) (h1 : rC (rv s (nv lx) (nv lx')) (rv t (nv ly) (nv ly')) ≤ 0) (h2 : ¬ rC (rv t (nv ly) (nv ly')) (rv o (nv lz) (nv lz')) ≤ 0) : Calls Tryd.prog 7 #[.agg #[.bool s, .slice a n c, .slice a' n' c'], .agg #[.bool t, .slice b m g, .slice b' m' g'], .agg #[.bool o, .slice d i j, .slice d' i' j']] w (BPost true w) := by
  obtain ⟨B_0, C_0, D_0, KW_0⟩ := ops3 w s a n c a' n' c' t b m g b' m' g' o d i j d' i' j'
  have T_0 := Lib.hid (hT.keep KW_0.out)
  have AW := Lib.hid (fun w1 (hT1 : Tab w1) => awake_c w1 hT1)
  have FX := Lib.hid (fun w1 (h : Rd w1 a n c lx) (h' : Rd w1 a' n' c' lx') => few_c (s := s) h h')
  rw [decide_eq_true fx] at FX
  have X_0 := Lib.hid (hx.below KW_0.out)
  have X'_0 := Lib.hid (hx'.below KW_0.out)
  have FY := Lib.hid (fun w1 (h : Rd w1 b m g ly) (h' : Rd w1 b' m' g' ly') => few_c (s := t) h h')
  rw [decide_eq_true fy] at FY
  have Y_0 := Lib.hid (hy.below KW_0.out)
  have Y'_0 := Lib.hid (hy'.below KW_0.out)
  have FZ := Lib.hid (fun w1 (h : Rd w1 d i j lz) (h' : Rd w1 d' i' j' lz') => few_c (s := o) h h')
  rw [decide_eq_true fz] at FZ
  have Z_0 := Lib.hid (hz.below KW_0.out)
  have Z'_0 := Lib.hid (hz'.below KW_0.out)
  have lX : lx.length ≤ 3 := by rw [hx.len_eq]; exact fx.1
  have lX' : lx'.length ≤ 3 := by rw [hx'.len_eq]; exact fx.2
  have nX : Ra w (.agg #[.bool s, .slice a n c, .slice a' n' c']) (rv s (nv lx) (nv lx')) 3 := ⟨_, _, _, _, _, rfl, hx.toNm rfl lX, hx'.toNm rfl lX', rfl⟩
  obtain ⟨p, hXq⟩ : ∃ q, rv s (nv lx) (nv lx') = q := ⟨_, rfl⟩
  rw [hXq] at nX h1
  have NX_0 := Lib.hid (nX.keep KW_0.out)
  have rbp := nX.rb (by omega)
  have lY : ly.length ≤ 3 := by rw [hy.len_eq]; exact fy.1
  have lY' : ly'.length ≤ 3 := by rw [hy'.len_eq]; exact fy.2
  have nY : Ra w (.agg #[.bool t, .slice b m g, .slice b' m' g']) (rv t (nv ly) (nv ly')) 3 := ⟨_, _, _, _, _, rfl, hy.toNm rfl lY, hy'.toNm rfl lY', rfl⟩
  obtain ⟨q, hYq⟩ : ∃ q, rv t (nv ly) (nv ly') = q := ⟨_, rfl⟩
  rw [hYq] at nY h1 h2
  have NY_0 := Lib.hid (nY.keep KW_0.out)
  have rbq := nY.rb (by omega)
  have lZ : lz.length ≤ 3 := by rw [hz.len_eq]; exact fz.1
  have lZ' : lz'.length ≤ 3 := by rw [hz'.len_eq]; exact fz.2
  have nZ : Ra w (.agg #[.bool o, .slice d i j, .slice d' i' j']) (rv o (nv lz) (nv lz')) 3 := ⟨_, _, _, _, _, rfl, hz.toNm rfl lZ, hz'.toNm rfl lZ', rfl⟩
  obtain ⟨r, hZq⟩ : ∃ q, rv o (nv lz) (nv lz') = q := ⟨_, rfl⟩
  rw [hZq] at nZ h2
  have NZ_0 := Lib.hid (nZ.keep KW_0.out)
  have rbr := nZ.rb (by omega)
  have rb1 : Rb (p + r) 7 := (rbp.add rbr).up (by omega)
  have rb2 : Rb (q + r) 7 := (rbq.add rbr).up (by omega)
  have rb3 : Rb (p * r) 6 := (rbp.mul rbr (by omega)).up (by omega)
  have rb4 : Rb (q * r) 6 := (rbq.mul rbr (by omega)).up (by omega)
  have C1 := Lib.hid (fun w1 (hu : Ra w1 (.agg #[.bool s, .slice a n c, .slice a' n' c']) p 3) (hv : Ra w1 (.agg #[.bool t, .slice b m g, .slice b' m' g']) q 3) => qcmp_c (hu) (hv) (by omega) (by omega))
  have C2 := Lib.hid (fun w1 (hu : Ra w1 (.agg #[.bool s, .slice a n c, .slice a' n' c']) p 3) (hv : Ra w1 (.agg #[.bool t, .slice b m g, .slice b' m' g']) q 3) => rqcmp_c (hu) (hv) (by omega) (by omega))
  have C3 := Lib.hid (fun w1 (hu : Ra w1 (.agg #[.bool t, .slice b m g, .slice b' m' g']) q 3) (hv : Ra w1 (.agg #[.bool s, .slice a n c, .slice a' n' c']) p 3) => qcmp_c (hu) (hv) (by omega) (by omega))
  have C4 := Lib.hid (fun w1 (hu : Ra w1 (.agg #[.bool t, .slice b m g, .slice b' m' g']) q 3) (hv : Ra w1 (.agg #[.bool o, .slice d i j, .slice d' i' j']) r 3) => qcmp_c (hu) (hv) (by omega) (by omega))
  have C5 := Lib.hid (fun w1 (hu : Ra w1 (.agg #[.bool s, .slice a n c, .slice a' n' c']) p 3) (hv : Ra w1 (.agg #[.bool o, .slice d i j, .slice d' i' j']) r 3) => qcmp_c (hu) (hv) (by omega) (by omega))
  have MI := Lib.hid (fun w1 (hu : Ra w1 (.agg #[.bool s, .slice a n c, .slice a' n' c']) p 3) (hv : Ra w1 (.agg #[.bool t, .slice b m g, .slice b' m' g']) q 3) (hT1 : Tab w1) => qmin_c (hu) (hv) (by omega) (by omega) hT1)
  have RI := Lib.hid (fun w1 (hu : Ra w1 (.agg #[.bool s, .slice a n c, .slice a' n' c']) p 3) (hv : Ra w1 (.agg #[.bool t, .slice b m g, .slice b' m' g']) q 3) => rqmin_c (hu) (hv) (by omega) (by omega))
  have MA := Lib.hid (fun w1 (hu : Ra w1 (.agg #[.bool s, .slice a n c, .slice a' n' c']) p 3) (hv : Ra w1 (.agg #[.bool t, .slice b m g, .slice b' m' g']) q 3) (hT1 : Tab w1) => qmax_c (hu) (hv) (by omega) (by omega) hT1)
  have RA := Lib.hid (fun w1 (hu : Ra w1 (.agg #[.bool s, .slice a n c, .slice a' n' c']) p 3) (hv : Ra w1 (.agg #[.bool t, .slice b m g, .slice b' m' g']) q 3) => rqmax_c (hu) (hv) (by omega) (by omega))
  have A1 := Lib.hid (fun w1 (hu : Ra w1 (.agg #[.bool s, .slice a n c, .slice a' n' c']) p 3) (hv : Ra w1 (.agg #[.bool o, .slice d i j, .slice d' i' j']) r 3) (hT1 : Tab w1) => qadd_c (hu) (hv) (by omega) (by omega) hT1)
  have A2 := Lib.hid (fun w1 (hu : Ra w1 (.agg #[.bool t, .slice b m g, .slice b' m' g']) q 3) (hv : Ra w1 (.agg #[.bool o, .slice d i j, .slice d' i' j']) r 3) (hT1 : Tab w1) => qadd_c (hu) (hv) (by omega) (by omega) hT1)
  have C6 := Lib.hid (fun w1 u (hu : Cr w1 u (p + r)) v (hv : Cr w1 v (q + r)) => qcmp_c (hu.ra rb1) (hv.ra rb2) (by omega) (by omega))
  rw [rC_add] at C6
  have M1 := Lib.hid (fun w1 (hu : Ra w1 (.agg #[.bool s, .slice a n c, .slice a' n' c']) p 3) (hv : Ra w1 (.agg #[.bool o, .slice d i j, .slice d' i' j']) r 3) (hT1 : Tab w1) => qmul_c (hu) (hv) (by omega) (by omega) hT1)
  have M2 := Lib.hid (fun w1 (hu : Ra w1 (.agg #[.bool t, .slice b m g, .slice b' m' g']) q 3) (hv : Ra w1 (.agg #[.bool o, .slice d i j, .slice d' i' j']) r 3) (hT1 : Tab w1) => qmul_c (hu) (hv) (by omega) (by omega) hT1)
  have C7 := Lib.hid (fun w1 u (hu : Cr w1 u (p * r)) v (hv : Cr w1 v (q * r)) => qcmp_c (hu.ra rb3) (hv.ra rb4) (by omega) (by omega))
  rw [rC_mul] at C7
  have SG := Lib.hid (fun w1 (h : Ra w1 (.agg #[.bool o, .slice d i j, .slice d' i' j']) r 3) => qsign_c h (by omega))
  obtain ⟨mn, hmn⟩ : ∃ x, (if rC p q ≤ 0 then p else q) = x := ⟨_, rfl⟩
  rw [hmn] at MI RI
  obtain ⟨mx, hmx⟩ : ∃ x, (if 0 ≤ rC p q then p else q) = x := ⟨_, rfl⟩
  rw [hmx] at MA RA
  have w1 := rC_wrap p q
  have m1 := mul_range (rC_range p q) (rS_range r)
  have m2 := mul_range' (rC_range p q) (rS_range r)
  obtain ⟨z, hzv⟩ : ∃ z, rC p q = z := ⟨_, rfl⟩
  obtain ⟨zn, hzn⟩ : ∃ z, rC q p = z := ⟨_, rfl⟩
  obtain ⟨y, hyv⟩ : ∃ z, rC q r = z := ⟨_, rfl⟩
  obtain ⟨x, hxv⟩ : ∃ z, rC p r = z := ⟨_, rfl⟩
  obtain ⟨sg, hsg⟩ : ∃ z, rS r = z := ⟨_, rfl⟩
  rw [hzv] at C1 C2 C6 C7 w1 m1 m2 h1
  rw [hzn] at C3 w1
  rw [hyv] at C4 h2
  rw [hxv] at C5
  rw [hsg] at SG C7 m1 m2
  obtain ⟨w1, w2⟩ := w1
  obtain ⟨ms, hms⟩ : ∃ m, z * sg = m := ⟨_, rfl⟩
  rw [hms] at C7
  have m3 : wrap64 (z * sg) = ms := m1.trans hms
  have m4 : IntKind.i64.wrap (z * sg) = ms := m2.trans hms
  have d1 : decide (z ≤ 0) = true := decide_eq_true h1
  have d2 : decide (y ≤ 0) = false := decide_eq_false h2
  clear hT hx hx' fx lX lX' nX hy hy' fy lY lY' nY hz hz' fz lZ lZ' nZ hXq hYq hZq rbp rbq rbr rb1 rb2 rb3 rb4 hmn hmx hzv hzn hyv hxv hsg hms m1 m2 h1 h2
  go_enter Tryd.func7, Tryd.ntmps7
  obtain ⟨B_c0, B_c1, B_c2, -, -, -, -⟩ := id B_0.out
  obtain ⟨C_c0, C_c1, C_c2, -, -, -, -⟩ := id C_0.out
  obtain ⟨D_c0, D_c1, D_c2, -, -, -, -⟩ := id D_0.out
  go_wp2_with fail
  refine Calls.mono (AW.out _ T_0.out) ?_
  rintro e w1 ⟨rfl, k1⟩
  clear B_c0 B_c1 B_c2 C_c0 C_c1 C_c2 D_c0 D_c1 D_c2
  have T_1 := Lib.hid (T_0.out.keep k1)
  have X_1 := Lib.hid (X_0.out.keep k1)
  have X'_1 := Lib.hid (X'_0.out.keep k1)
  have NX_1 := Lib.hid (NX_0.out.keep k1)
  have Y_1 := Lib.hid (Y_0.out.keep k1)
  have Y'_1 := Lib.hid (Y'_0.out.keep k1)
  have NY_1 := Lib.hid (NY_0.out.keep k1)
  have Z_1 := Lib.hid (Z_0.out.keep k1)
  have Z'_1 := Lib.hid (Z'_0.out.keep k1)
  have NZ_1 := Lib.hid (NZ_0.out.keep k1)
  have B_1 := Lib.hid (B_0.out.keep k1)
  have C_1 := Lib.hid (C_0.out.keep k1)
  have D_1 := Lib.hid (D_0.out.keep k1)
  have KW_1 := Lib.hid (KW_0.out.trans k1)
  clear k1 T_0 X_0 X'_0 NX_0 Y_0 Y'_0 NY_0 Z_0 Z'_0 NZ_0 B_0 C_0 D_0 KW_0
  obtain ⟨B_c0, B_c1, B_c2, -, -, -, -⟩ := id B_1.out
  obtain ⟨C_c0, C_c1, C_c2, -, -, -, -⟩ := id C_1.out
  obtain ⟨D_c0, D_c1, D_c2, -, -, -, -⟩ := id D_1.out
  go_wp2_with fail
  refine Calls.mono (FX.out _ X_1.out X'_1.out) ?_
  rintro e w2 ⟨rfl, k2⟩
  clear B_c0 B_c1 B_c2 C_c0 C_c1 C_c2 D_c0 D_c1 D_c2
  have T_2 := Lib.hid (T_1.out.keep k2)
  have X_2 := Lib.hid (X_1.out.keep k2)
  have X'_2 := Lib.hid (X'_1.out.keep k2)
  have NX_2 := Lib.hid (NX_1.out.keep k2)
  have Y_2 := Lib.hid (Y_1.out.keep k2)
  have Y'_2 := Lib.hid (Y'_1.out.keep k2)
  have NY_2 := Lib.hid (NY_1.out.keep k2)
  have Z_2 := Lib.hid (Z_1.out.keep k2)
  have Z'_2 := Lib.hid (Z'_1.out.keep k2)
  have NZ_2 := Lib.hid (NZ_1.out.keep k2)
  have B_2 := Lib.hid (B_1.out.keep k2)
  have C_2 := Lib.hid (C_1.out.keep k2)
  have D_2 := Lib.hid (D_1.out.keep k2)
  have KW_2 := Lib.hid (KW_1.out.trans k2)
  clear k2 T_1 X_1 X'_1 NX_1 Y_1 Y'_1 NY_1 Z_1 Z'_1 NZ_1 B_1 C_1 D_1 KW_1
  obtain ⟨B_c0, B_c1, B_c2, -, -, -, -⟩ := id B_2.out
  obtain ⟨C_c0, C_c1, C_c2, -, -, -, -⟩ := id C_2.out
  obtain ⟨D_c0, D_c1, D_c2, -, -, -, -⟩ := id D_2.out
  go_wp2_with fail
  refine Calls.mono (FY.out _ Y_2.out Y'_2.out) ?_
  rintro e w3 ⟨rfl, k3⟩
  clear B_c0 B_c1 B_c2 C_c0 C_c1 C_c2 D_c0 D_c1 D_c2
  have T_3 := Lib.hid (T_2.out.keep k3)
  have X_3 := Lib.hid (X_2.out.keep k3)
  have X'_3 := Lib.hid (X'_2.out.keep k3)
  have NX_3 := Lib.hid (NX_2.out.keep k3)
  have Y_3 := Lib.hid (Y_2.out.keep k3)
  have Y'_3 := Lib.hid (Y'_2.out.keep k3)
  have NY_3 := Lib.hid (NY_2.out.keep k3)
  have Z_3 := Lib.hid (Z_2.out.keep k3)
  have Z'_3 := Lib.hid (Z'_2.out.keep k3)
  have NZ_3 := Lib.hid (NZ_2.out.keep k3)
  have B_3 := Lib.hid (B_2.out.keep k3)
  have C_3 := Lib.hid (C_2.out.keep k3)
  have D_3 := Lib.hid (D_2.out.keep k3)
  have KW_3 := Lib.hid (KW_2.out.trans k3)
  clear k3 T_2 X_2 X'_2 NX_2 Y_2 Y'_2 NY_2 Z_2 Z'_2 NZ_2 B_2 C_2 D_2 KW_2
  obtain ⟨B_c0, B_c1, B_c2, -, -, -, -⟩ := id B_3.out
  obtain ⟨C_c0, C_c1, C_c2, -, -, -, -⟩ := id C_3.out
  obtain ⟨D_c0, D_c1, D_c2, -, -, -, -⟩ := id D_3.out
  go_wp2_with fail
  refine Calls.mono (FZ.out _ Z_3.out Z'_3.out) ?_
  rintro e w4 ⟨rfl, k4⟩
  clear B_c0 B_c1 B_c2 C_c0 C_c1 C_c2 D_c0 D_c1 D_c2
  have T_4 := Lib.hid (T_3.out.keep k4)
  have X_4 := Lib.hid (X_3.out.keep k4)
  have X'_4 := Lib.hid (X'_3.out.keep k4)
  have NX_4 := Lib.hid (NX_3.out.keep k4)
  have Y_4 := Lib.hid (Y_3.out.keep k4)
  have Y'_4 := Lib.hid (Y'_3.out.keep k4)
  have NY_4 := Lib.hid (NY_3.out.keep k4)
  have Z_4 := Lib.hid (Z_3.out.keep k4)
  have Z'_4 := Lib.hid (Z'_3.out.keep k4)
  have NZ_4 := Lib.hid (NZ_3.out.keep k4)
  have B_4 := Lib.hid (B_3.out.keep k4)
  have C_4 := Lib.hid (C_3.out.keep k4)
  have D_4 := Lib.hid (D_3.out.keep k4)
  have KW_4 := Lib.hid (KW_3.out.trans k4)
  clear k4 T_3 X_3 X'_3 NX_3 Y_3 Y'_3 NY_3 Z_3 Z'_3 NZ_3 B_3 C_3 D_3 KW_3
  clear AW FX FY FZ
  clear X_4 X'_4 Y_4 Y'_4 Z_4 Z'_4
  obtain ⟨B_c0, B_c1, B_c2, -, -, -, -⟩ := id B_4.out
  obtain ⟨C_c0, C_c1, C_c2, -, -, -, -⟩ := id C_4.out
  obtain ⟨D_c0, D_c1, D_c2, -, -, -, -⟩ := id D_4.out
  go_wp2_with fail
  refine Calls.mono (C1.out _ NX_4.out NY_4.out) ?_
  rintro e w5 ⟨rfl, k5⟩
  clear B_c0 B_c1 B_c2 C_c0 C_c1 C_c2 D_c0 D_c1 D_c2
  have T_5 := Lib.hid (T_4.out.keep k5)
  have NX_5 := Lib.hid (NX_4.out.keep k5)
  have NY_5 := Lib.hid (NY_4.out.keep k5)
  have NZ_5 := Lib.hid (NZ_4.out.keep k5)
  have B_5 := Lib.hid (B_4.out.keep k5)
  have C_5 := Lib.hid (C_4.out.keep k5)
  have D_5 := Lib.hid (D_4.out.keep k5)
  have KW_5 := Lib.hid (KW_4.out.trans k5)
  clear k5 T_4 NX_4 NY_4 NZ_4 B_4 C_4 D_4 KW_4
  obtain ⟨B_c0, B_c1, B_c2, -, -, -, -⟩ := id B_5.out
  obtain ⟨C_c0, C_c1, C_c2, -, -, -, -⟩ := id C_5.out
  obtain ⟨D_c0, D_c1, D_c2, -, -, -, -⟩ := id D_5.out
  go_wp2_with fail
  refine Calls.mono (C2.out _ NX_5.out NY_5.out) ?_
  rintro e w6 ⟨rfl, k6⟩
  clear B_c0 B_c1 B_c2 C_c0 C_c1 C_c2 D_c0 D_c1 D_c2
  have T_6 := Lib.hid (T_5.out.keep k6)
  have NX_6 := Lib.hid (NX_5.out.keep k6)
  have NY_6 := Lib.hid (NY_5.out.keep k6)
  have NZ_6 := Lib.hid (NZ_5.out.keep k6)
  have B_6 := Lib.hid (B_5.out.keep k6)
  have C_6 := Lib.hid (C_5.out.keep k6)
  have D_6 := Lib.hid (D_5.out.keep k6)
  have KW_6 := Lib.hid (KW_5.out.trans k6)
  clear k6 T_5 NX_5 NY_5 NZ_5 B_5 C_5 D_5 KW_5
  obtain ⟨B_c0, B_c1, B_c2, -, -, -, -⟩ := id B_6.out
  obtain ⟨C_c0, C_c1, C_c2, -, -, -, -⟩ := id C_6.out
  obtain ⟨D_c0, D_c1, D_c2, -, -, -, -⟩ := id D_6.out
  go_wp2_with fail
  refine Calls.mono (C3.out _ NY_6.out NX_6.out) ?_
  rintro e w7 ⟨rfl, k7⟩
  clear B_c0 B_c1 B_c2 C_c0 C_c1 C_c2 D_c0 D_c1 D_c2
  have T_7 := Lib.hid (T_6.out.keep k7)
  have NX_7 := Lib.hid (NX_6.out.keep k7)
  have NY_7 := Lib.hid (NY_6.out.keep k7)
  have NZ_7 := Lib.hid (NZ_6.out.keep k7)
  have B_7 := Lib.hid (B_6.out.keep k7)
  have C_7 := Lib.hid (C_6.out.keep k7)
  have D_7 := Lib.hid (D_6.out.keep k7)
  have KW_7 := Lib.hid (KW_6.out.trans k7)
  clear k7 T_6 NX_6 NY_6 NZ_6 B_6 C_6 D_6 KW_6
  obtain ⟨B_c0, B_c1, B_c2, -, -, -, -⟩ := id B_7.out
  obtain ⟨C_c0, C_c1, C_c2, -, -, -, -⟩ := id C_7.out
  obtain ⟨D_c0, D_c1, D_c2, -, -, -, -⟩ := id D_7.out
  go_wp2_with fail
  refine Calls.mono (C4.out _ NY_7.out NZ_7.out) ?_
  rintro e w8 ⟨rfl, k8⟩
  clear B_c0 B_c1 B_c2 C_c0 C_c1 C_c2 D_c0 D_c1 D_c2
  have T_8 := Lib.hid (T_7.out.keep k8)
  have NX_8 := Lib.hid (NX_7.out.keep k8)
  have NY_8 := Lib.hid (NY_7.out.keep k8)
  have NZ_8 := Lib.hid (NZ_7.out.keep k8)
  have B_8 := Lib.hid (B_7.out.keep k8)
  have C_8 := Lib.hid (C_7.out.keep k8)
  have D_8 := Lib.hid (D_7.out.keep k8)
  have KW_8 := Lib.hid (KW_7.out.trans k8)
  clear k8 T_7 NX_7 NY_7 NZ_7 B_7 C_7 D_7 KW_7
  clear C1 C2 C3 C4 C5
  obtain ⟨oB_0, oB_1, oB_2, -, -, -, -⟩ := id B_8.out
  obtain ⟨oC_0, oC_1, oC_2, -, -, -, -⟩ := id C_8.out
  obtain ⟨oD_0, oD_1, oD_2, -, -, -, -⟩ := id D_8.out
  have T_9 := Lib.hid (T_8.out.keep (keep_drew _))
  clear T_8
  have NX_9 := Lib.hid (NX_8.out.keep (keep_drew _))
  clear NX_8
  have NY_9 := Lib.hid (NY_8.out.keep (keep_drew _))
  clear NY_8
  have NZ_9 := Lib.hid (NZ_8.out.keep (keep_drew _))
  clear NZ_8
  have B_9 := Lib.hid (B_8.out.keep (keep_drew _))
  clear B_8
  have C_9 := Lib.hid (C_8.out.keep (keep_drew _))
  clear C_8
  have D_9 := Lib.hid (D_8.out.keep (keep_drew _))
  clear D_8
  have KW_9 := Lib.hid (KW_8.out.trans (keep_drew _))
  clear KW_8
  obtain ⟨cB_9_0, cB_9_1, cB_9_2, -, -, -, -⟩ := id B_9.out
  obtain ⟨cC_9_0, cC_9_1, cC_9_2, -, -, -, -⟩ := id C_9.out
  go_wp2
  go_region_held3 (fun w' => w'.cell? ⟨w.heap.size, 0, none⟩ = some (.bool s) ∧ w'.cell? ⟨w.heap.size, 1, none⟩ = some (.slice a n c) ∧ w'.cell? ⟨w.heap.size, 2, none⟩ = some (.slice a' n' c') ∧ w'.cell? ⟨w.heap.size + 1, 0, none⟩ = some (.bool t) ∧ w'.cell? ⟨w.heap.size + 1, 1, none⟩ = some (.slice b m g) ∧ w'.cell? ⟨w.heap.size + 1, 2, none⟩ = some (.slice b' m' g')) (first | exact ⟨cB_15_0, cB_15_1, cB_15_2, cC_15_0, cC_15_1, cC_15_2⟩ | exact ⟨cB_14_0, cB_14_1, cB_14_2, cC_14_0, cC_14_1, cC_14_2⟩ | exact ⟨cB_13_0, cB_13_1, cB_13_2, cC_13_0, cC_13_1, cC_13_2⟩ | exact ⟨cB_12_0, cB_12_1, cB_12_2, cC_12_0, cC_12_1, cC_12_2⟩ | exact ⟨cB_11_0, cB_11_1, cB_11_2, cC_11_0, cC_11_1, cC_11_2⟩ | exact ⟨cB_10_0, cB_10_1, cB_10_2, cC_10_0, cC_10_1, cC_10_2⟩ | exact ⟨cB_9_0, cB_9_1, cB_9_2, cC_9_0, cC_9_1, cC_9_2⟩ | go_keep)
    (first
      | (go_at_call 14; ((with_reducible refine Calls.mono (qsame_t F_14.out G_14.out) ?_); rintro e w15 ⟨rfl, k15⟩; have T_15 := Lib.hid (T_14.out.keep k15); have NX_15 := Lib.hid (NX_14.out.keep k15); have NY_15 := Lib.hid (NY_14.out.keep k15); have NZ_15 := Lib.hid (NZ_14.out.keep k15); have B_15 := Lib.hid (B_14.out.keep k15); have C_15 := Lib.hid (C_14.out.keep k15); have D_15 := Lib.hid (D_14.out.keep k15); have A_15 := Lib.hid (A_14.out.keep k15); have E_15 := Lib.hid (E_14.out.keep k15); have F_15 := Lib.hid (F_14.out.keep k15); have G_15 := Lib.hid (G_14.out.keep k15); have KW_15 := Lib.hid (KW_14.out.trans k15); obtain ⟨cB_15_0, cB_15_1, cB_15_2, -, -, -, -⟩ := id B_15.out; obtain ⟨cC_15_0, cC_15_1, cC_15_2, -, -, -, -⟩ := id C_15.out; clear k15))
      | (go_at_call 43; ((with_reducible refine Calls.mono (RA.out _ NX_13.out NY_13.out) ?_); rintro e w14 ⟨x4, rfl, hD, k14⟩; have T_14 := Lib.hid (T_13.out.keep k14); have NX_14 := Lib.hid (NX_13.out.keep k14); have NY_14 := Lib.hid (NY_13.out.keep k14); have NZ_14 := Lib.hid (NZ_13.out.keep k14); have B_14 := Lib.hid (B_13.out.keep k14); have C_14 := Lib.hid (C_13.out.keep k14); have D_14 := Lib.hid (D_13.out.keep k14); have A_14 := Lib.hid (A_13.out.keep k14); have E_14 := Lib.hid (E_13.out.keep k14); have F_14 := Lib.hid (F_13.out.keep k14); have G_14 := Lib.hid hD; clear hD; have KW_14 := Lib.hid (KW_13.out.trans k14); obtain ⟨cB_14_0, cB_14_1, cB_14_2, -, -, -, -⟩ := id B_14.out; obtain ⟨cC_14_0, cC_14_1, cC_14_2, -, -, -, -⟩ := id C_14.out; clear k14))
      | (go_at_call 42; ((with_reducible refine Calls.mono (MA.out _ NX_12.out NY_12.out T_12.out) ?_); rintro e w13 ⟨x3, rfl, hC, k13⟩; have T_13 := Lib.hid (T_12.out.keep k13); have NX_13 := Lib.hid (NX_12.out.keep k13); have NY_13 := Lib.hid (NY_12.out.keep k13); have NZ_13 := Lib.hid (NZ_12.out.keep k13); have B_13 := Lib.hid (B_12.out.keep k13); have C_13 := Lib.hid (C_12.out.keep k13); have D_13 := Lib.hid (D_12.out.keep k13); have A_13 := Lib.hid (A_12.out.keep k13); have E_13 := Lib.hid (E_12.out.keep k13); have F_13 := Lib.hid hC; clear hC; have KW_13 := Lib.hid (KW_12.out.trans k13); obtain ⟨cB_13_0, cB_13_1, cB_13_2, -, -, -, -⟩ := id B_13.out; obtain ⟨cC_13_0, cC_13_1, cC_13_2, -, -, -, -⟩ := id C_13.out; clear k13))
      | (go_at_call 14; ((with_reducible refine Calls.mono (qsame_t A_11.out E_11.out) ?_); rintro e w12 ⟨rfl, k12⟩; have T_12 := Lib.hid (T_11.out.keep k12); have NX_12 := Lib.hid (NX_11.out.keep k12); have NY_12 := Lib.hid (NY_11.out.keep k12); have NZ_12 := Lib.hid (NZ_11.out.keep k12); have B_12 := Lib.hid (B_11.out.keep k12); have C_12 := Lib.hid (C_11.out.keep k12); have D_12 := Lib.hid (D_11.out.keep k12); have A_12 := Lib.hid (A_11.out.keep k12); have E_12 := Lib.hid (E_11.out.keep k12); have KW_12 := Lib.hid (KW_11.out.trans k12); obtain ⟨cB_12_0, cB_12_1, cB_12_2, -, -, -, -⟩ := id B_12.out; obtain ⟨cC_12_0, cC_12_1, cC_12_2, -, -, -, -⟩ := id C_12.out; clear k12))
      | (go_at_call 41; ((with_reducible refine Calls.mono (RI.out _ NX_10.out NY_10.out) ?_); rintro e w11 ⟨x2, rfl, hB, k11⟩; have T_11 := Lib.hid (T_10.out.keep k11); have NX_11 := Lib.hid (NX_10.out.keep k11); have NY_11 := Lib.hid (NY_10.out.keep k11); have NZ_11 := Lib.hid (NZ_10.out.keep k11); have B_11 := Lib.hid (B_10.out.keep k11); have C_11 := Lib.hid (C_10.out.keep k11); have D_11 := Lib.hid (D_10.out.keep k11); have A_11 := Lib.hid (A_10.out.keep k11); have E_11 := Lib.hid hB; clear hB; have KW_11 := Lib.hid (KW_10.out.trans k11); obtain ⟨cB_11_0, cB_11_1, cB_11_2, -, -, -, -⟩ := id B_11.out; obtain ⟨cC_11_0, cC_11_1, cC_11_2, -, -, -, -⟩ := id C_11.out; clear k11))
      | (go_at_call 40; ((with_reducible refine Calls.mono (MI.out _ NX_9.out NY_9.out T_9.out) ?_); rintro e w10 ⟨x1, rfl, hA, k10⟩; have T_10 := Lib.hid (T_9.out.keep k10); have NX_10 := Lib.hid (NX_9.out.keep k10); have NY_10 := Lib.hid (NY_9.out.keep k10); have NZ_10 := Lib.hid (NZ_9.out.keep k10); have B_10 := Lib.hid (B_9.out.keep k10); have C_10 := Lib.hid (C_9.out.keep k10); have D_10 := Lib.hid (D_9.out.keep k10); have A_10 := Lib.hid hA; clear hA; have KW_10 := Lib.hid (KW_9.out.trans k10); obtain ⟨cB_10_0, cB_10_1, cB_10_2, -, -, -, -⟩ := id B_10.out; obtain ⟨cC_10_0, cC_10_1, cC_10_2, -, -, -, -⟩ := id C_10.out; clear k10)))
  clear cB_15_0 cB_15_1 cB_15_2 cC_15_0 cC_15_1 cC_15_2 cB_14_0 cB_14_1 cB_14_2 cC_14_0 cC_14_1 cC_14_2 cB_13_0 cB_13_1 cB_13_2 cC_13_0 cC_13_1 cC_13_2 cB_12_0 cB_12_1 cB_12_2 cC_12_0 cC_12_1 cC_12_2 cB_11_0 cB_11_1 cB_11_2 cC_11_0 cC_11_1 cC_11_2 cB_10_0 cB_10_1 cB_10_2 cC_10_0 cC_10_1 cC_10_2 cB_9_0 cB_9_1 cB_9_2 cC_9_0 cC_9_1 cC_9_2 oB_0 oB_1 oB_2 oC_0 oC_1 oC_2 oD_0 oD_1 oD_2
  clear MI RI MA RA
  clear A_15 E_15 F_15 G_15
  have T_16 := Lib.hid (T_15.out.keep (keep_drew _))
  clear T_15
  have NX_16 := Lib.hid (NX_15.out.keep (keep_drew _))
  clear NX_15
  have NY_16 := Lib.hid (NY_15.out.keep (keep_drew _))
  clear NY_15
  have NZ_16 := Lib.hid (NZ_15.out.keep (keep_drew _))
  clear NZ_15
  have B_16 := Lib.hid (B_15.out.keep (keep_drew _))
  clear B_15
  have C_16 := Lib.hid (C_15.out.keep (keep_drew _))
  clear C_15
  have D_16 := Lib.hid (D_15.out.keep (keep_drew _))
  clear D_15
  have KW_16 := Lib.hid (KW_15.out.trans (keep_drew _))
  clear KW_15
  obtain ⟨cB_16_0, cB_16_1, cB_16_2, -, -, -, -⟩ := id B_16.out
  obtain ⟨cC_16_0, cC_16_1, cC_16_2, -, -, -, -⟩ := id C_16.out
  obtain ⟨cD_16_0, cD_16_1, cD_16_2, -, -, -, -⟩ := id D_16.out
  go_wp2
  go_region_held3 (fun w' => w'.cell? ⟨w.heap.size, 0, none⟩ = some (.bool s) ∧ w'.cell? ⟨w.heap.size, 1, none⟩ = some (.slice a n c) ∧ w'.cell? ⟨w.heap.size, 2, none⟩ = some (.slice a' n' c') ∧ w'.cell? ⟨w.heap.size + 1, 0, none⟩ = some (.bool t) ∧ w'.cell? ⟨w.heap.size + 1, 1, none⟩ = some (.slice b m g) ∧ w'.cell? ⟨w.heap.size + 1, 2, none⟩ = some (.slice b' m' g') ∧ w'.cell? ⟨w.heap.size + 1 + 1, 0, none⟩ = some (.bool o) ∧ w'.cell? ⟨w.heap.size + 1 + 1, 1, none⟩ = some (.slice d i j) ∧ w'.cell? ⟨w.heap.size + 1 + 1, 2, none⟩ = some (.slice d' i' j')) (first | exact ⟨cB_23_0, cB_23_1, cB_23_2, cC_23_0, cC_23_1, cC_23_2, cD_23_0, cD_23_1, cD_23_2⟩ | exact ⟨cB_22_0, cB_22_1, cB_22_2, cC_22_0, cC_22_1, cC_22_2, cD_22_0, cD_22_1, cD_22_2⟩ | exact ⟨cB_21_0, cB_21_1, cB_21_2, cC_21_0, cC_21_1, cC_21_2, cD_21_0, cD_21_1, cD_21_2⟩ | exact ⟨cB_20_0, cB_20_1, cB_20_2, cC_20_0, cC_20_1, cC_20_2, cD_20_0, cD_20_1, cD_20_2⟩ | exact ⟨cB_19_0, cB_19_1, cB_19_2, cC_19_0, cC_19_1, cC_19_2, cD_19_0, cD_19_1, cD_19_2⟩ | exact ⟨cB_18_0, cB_18_1, cB_18_2, cC_18_0, cC_18_1, cC_18_2, cD_18_0, cD_18_1, cD_18_2⟩ | exact ⟨cB_17_0, cB_17_1, cB_17_2, cC_17_0, cC_17_1, cC_17_2, cD_17_0, cD_17_1, cD_17_2⟩ | exact ⟨cB_16_0, cB_16_1, cB_16_2, cC_16_0, cC_16_1, cC_16_2, cD_16_0, cD_16_1, cD_16_2⟩ | go_keep)
    (first
      | (go_at_call 24; ((with_reducible refine Calls.mono (SG.out _ NZ_22.out) ?_); rintro e w23 ⟨rfl, k23⟩; have T_23 := Lib.hid (T_22.out.keep k23); have NX_23 := Lib.hid (NX_22.out.keep k23); have NY_23 := Lib.hid (NY_22.out.keep k23); have NZ_23 := Lib.hid (NZ_22.out.keep k23); have B_23 := Lib.hid (B_22.out.keep k23); have C_23 := Lib.hid (C_22.out.keep k23); have D_23 := Lib.hid (D_22.out.keep k23); have A_23 := Lib.hid (A_22.out.keep k23); have E_23 := Lib.hid (E_22.out.keep k23); have F_23 := Lib.hid (F_22.out.keep k23); have G_23 := Lib.hid (G_22.out.keep k23); have KW_23 := Lib.hid (KW_22.out.trans k23); obtain ⟨cB_23_0, cB_23_1, cB_23_2, -, -, -, -⟩ := id B_23.out; obtain ⟨cC_23_0, cC_23_1, cC_23_2, -, -, -, -⟩ := id C_23.out; obtain ⟨cD_23_0, cD_23_1, cD_23_2, -, -, -, -⟩ := id D_23.out; clear k23))
      | (go_at_call 38; ((with_reducible refine Calls.mono (C7.out _ _ F_21.out _ G_21.out) ?_); rintro e w22 ⟨rfl, k22⟩; have T_22 := Lib.hid (T_21.out.keep k22); have NX_22 := Lib.hid (NX_21.out.keep k22); have NY_22 := Lib.hid (NY_21.out.keep k22); have NZ_22 := Lib.hid (NZ_21.out.keep k22); have B_22 := Lib.hid (B_21.out.keep k22); have C_22 := Lib.hid (C_21.out.keep k22); have D_22 := Lib.hid (D_21.out.keep k22); have A_22 := Lib.hid (A_21.out.keep k22); have E_22 := Lib.hid (E_21.out.keep k22); have F_22 := Lib.hid (F_21.out.keep k22); have G_22 := Lib.hid (G_21.out.keep k22); have KW_22 := Lib.hid (KW_21.out.trans k22); obtain ⟨cB_22_0, cB_22_1, cB_22_2, -, -, -, -⟩ := id B_22.out; obtain ⟨cC_22_0, cC_22_1, cC_22_2, -, -, -, -⟩ := id C_22.out; obtain ⟨cD_22_0, cD_22_1, cD_22_2, -, -, -, -⟩ := id D_22.out; clear k22))
      | (go_at_call 29; ((with_reducible refine Calls.mono (M2.out _ NY_20.out NZ_20.out T_20.out) ?_); rintro e w21 ⟨x8, rfl, hD, k21⟩; have T_21 := Lib.hid (T_20.out.keep k21); have NX_21 := Lib.hid (NX_20.out.keep k21); have NY_21 := Lib.hid (NY_20.out.keep k21); have NZ_21 := Lib.hid (NZ_20.out.keep k21); have B_21 := Lib.hid (B_20.out.keep k21); have C_21 := Lib.hid (C_20.out.keep k21); have D_21 := Lib.hid (D_20.out.keep k21); have A_21 := Lib.hid (A_20.out.keep k21); have E_21 := Lib.hid (E_20.out.keep k21); have F_21 := Lib.hid (F_20.out.keep k21); have G_21 := Lib.hid hD; clear hD; have KW_21 := Lib.hid (KW_20.out.trans k21); obtain ⟨cB_21_0, cB_21_1, cB_21_2, -, -, -, -⟩ := id B_21.out; obtain ⟨cC_21_0, cC_21_1, cC_21_2, -, -, -, -⟩ := id C_21.out; obtain ⟨cD_21_0, cD_21_1, cD_21_2, -, -, -, -⟩ := id D_21.out; clear k21))
      | (go_at_call 29; ((with_reducible refine Calls.mono (M1.out _ NX_19.out NZ_19.out T_19.out) ?_); rintro e w20 ⟨x7, rfl, hC, k20⟩; have T_20 := Lib.hid (T_19.out.keep k20); have NX_20 := Lib.hid (NX_19.out.keep k20); have NY_20 := Lib.hid (NY_19.out.keep k20); have NZ_20 := Lib.hid (NZ_19.out.keep k20); have B_20 := Lib.hid (B_19.out.keep k20); have C_20 := Lib.hid (C_19.out.keep k20); have D_20 := Lib.hid (D_19.out.keep k20); have A_20 := Lib.hid (A_19.out.keep k20); have E_20 := Lib.hid (E_19.out.keep k20); have F_20 := Lib.hid hC; clear hC; have KW_20 := Lib.hid (KW_19.out.trans k20); obtain ⟨cB_20_0, cB_20_1, cB_20_2, -, -, -, -⟩ := id B_20.out; obtain ⟨cC_20_0, cC_20_1, cC_20_2, -, -, -, -⟩ := id C_20.out; obtain ⟨cD_20_0, cD_20_1, cD_20_2, -, -, -, -⟩ := id D_20.out; clear k20))
      | (go_at_call 38; ((with_reducible refine Calls.mono (C6.out _ _ A_18.out _ E_18.out) ?_); rintro e w19 ⟨rfl, k19⟩; have T_19 := Lib.hid (T_18.out.keep k19); have NX_19 := Lib.hid (NX_18.out.keep k19); have NY_19 := Lib.hid (NY_18.out.keep k19); have NZ_19 := Lib.hid (NZ_18.out.keep k19); have B_19 := Lib.hid (B_18.out.keep k19); have C_19 := Lib.hid (C_18.out.keep k19); have D_19 := Lib.hid (D_18.out.keep k19); have A_19 := Lib.hid (A_18.out.keep k19); have E_19 := Lib.hid (E_18.out.keep k19); have KW_19 := Lib.hid (KW_18.out.trans k19); obtain ⟨cB_19_0, cB_19_1, cB_19_2, -, -, -, -⟩ := id B_19.out; obtain ⟨cC_19_0, cC_19_1, cC_19_2, -, -, -, -⟩ := id C_19.out; obtain ⟨cD_19_0, cD_19_1, cD_19_2, -, -, -, -⟩ := id D_19.out; clear k19))
      | (go_at_call 32; ((with_reducible refine Calls.mono (A2.out _ NY_17.out NZ_17.out T_17.out) ?_); rintro e w18 ⟨x6, rfl, hB, k18⟩; have T_18 := Lib.hid (T_17.out.keep k18); have NX_18 := Lib.hid (NX_17.out.keep k18); have NY_18 := Lib.hid (NY_17.out.keep k18); have NZ_18 := Lib.hid (NZ_17.out.keep k18); have B_18 := Lib.hid (B_17.out.keep k18); have C_18 := Lib.hid (C_17.out.keep k18); have D_18 := Lib.hid (D_17.out.keep k18); have A_18 := Lib.hid (A_17.out.keep k18); have E_18 := Lib.hid hB; clear hB; have KW_18 := Lib.hid (KW_17.out.trans k18); obtain ⟨cB_18_0, cB_18_1, cB_18_2, -, -, -, -⟩ := id B_18.out; obtain ⟨cC_18_0, cC_18_1, cC_18_2, -, -, -, -⟩ := id C_18.out; obtain ⟨cD_18_0, cD_18_1, cD_18_2, -, -, -, -⟩ := id D_18.out; clear k18))
      | (go_at_call 32; ((with_reducible refine Calls.mono (A1.out _ NX_16.out NZ_16.out T_16.out) ?_); rintro e w17 ⟨x5, rfl, hA, k17⟩; have T_17 := Lib.hid (T_16.out.keep k17); have NX_17 := Lib.hid (NX_16.out.keep k17); have NY_17 := Lib.hid (NY_16.out.keep k17); have NZ_17 := Lib.hid (NZ_16.out.keep k17); have B_17 := Lib.hid (B_16.out.keep k17); have C_17 := Lib.hid (C_16.out.keep k17); have D_17 := Lib.hid (D_16.out.keep k17); have A_17 := Lib.hid hA; clear hA; have KW_17 := Lib.hid (KW_16.out.trans k17); obtain ⟨cB_17_0, cB_17_1, cB_17_2, -, -, -, -⟩ := id B_17.out; obtain ⟨cC_17_0, cC_17_1, cC_17_2, -, -, -, -⟩ := id C_17.out; obtain ⟨cD_17_0, cD_17_1, cD_17_2, -, -, -, -⟩ := id D_17.out; clear k17)))
  clear cB_23_0 cB_23_1 cB_23_2 cC_23_0 cC_23_1 cC_23_2 cD_23_0 cD_23_1 cD_23_2 cB_22_0 cB_22_1 cB_22_2 cC_22_0 cC_22_1 cC_22_2 cD_22_0 cD_22_1 cD_22_2 cB_21_0 cB_21_1 cB_21_2 cC_21_0 cC_21_1 cC_21_2 cD_21_0 cD_21_1 cD_21_2 cB_20_0 cB_20_1 cB_20_2 cC_20_0 cC_20_1 cC_20_2 cD_20_0 cD_20_1 cD_20_2 cB_19_0 cB_19_1 cB_19_2 cC_19_0 cC_19_1 cC_19_2 cD_19_0 cD_19_1 cD_19_2 cB_18_0 cB_18_1 cB_18_2 cC_18_0 cC_18_1 cC_18_2 cD_18_0 cD_18_1 cD_18_2 cB_17_0 cB_17_1 cB_17_2 cC_17_0 cC_17_1 cC_17_2 cD_17_0 cD_17_1 cD_17_2 cB_16_0 cB_16_1 cB_16_2 cC_16_0 cC_16_1 cC_16_2 cD_16_0 cD_16_1 cD_16_2
  all_goals
    go_wp2_with fail
    go_ret
    exact ⟨rfl, KW_23.out⟩
set_option maxHeartbeats 4000000 in
theorem cmp_law_s2 {w : World} {s : Bool} {a a' : Option Addr} {n c n' c' : Nat} {lx lx' : List Nat} {t : Bool} {b b' : Option Addr} {m g m' g' : Nat} {ly ly' : List Nat} {o : Bool} {d d' : Option Addr} {i j i' j' : Nat} {lz lz' : List Nat} (hx : Rd w a n c lx) (hx' : Rd w a' n' c' lx') (hy : Rd w b m g ly) (hy' : Rd w b' m' g' ly') (hz : Rd w d i j lz) (hz' : Rd w d' i' j' lz') (hT : Tab w) (fx : (n ≤ 3 ∧ n' ≤ 3)) (fy : (m ≤ 3 ∧ m' ≤ 3)) (fz : (i ≤ 3 ∧ i' ≤ 3)) (h1 : rC (rv s (nv lx) (nv lx')) (rv t (nv ly) (nv ly')) ≤ 0) (h2 : rC (rv t (nv ly) (nv ly')) (rv o (nv lz) (nv lz')) ≤ 0) : Calls Tryd.prog 7 #[.agg #[.bool s, .slice a n c, .slice a' n' c'], .agg #[.bool t, .slice b m g, .slice b' m' g'], .agg #[.bool o, .slice d i j, .slice d' i' j']] w (BPost true w) := by
  obtain ⟨B_0, C_0, D_0, KW_0⟩ := ops3 w s a n c a' n' c' t b m g b' m' g' o d i j d' i' j'
  have T_0 := Lib.hid (hT.keep KW_0.out)
  have AW := Lib.hid (fun w1 (hT1 : Tab w1) => awake_c w1 hT1)
  have FX := Lib.hid (fun w1 (h : Rd w1 a n c lx) (h' : Rd w1 a' n' c' lx') => few_c (s := s) h h')
  rw [decide_eq_true fx] at FX
  have X_0 := Lib.hid (hx.below KW_0.out)
  have X'_0 := Lib.hid (hx'.below KW_0.out)
  have FY := Lib.hid (fun w1 (h : Rd w1 b m g ly) (h' : Rd w1 b' m' g' ly') => few_c (s := t) h h')
  rw [decide_eq_true fy] at FY
  have Y_0 := Lib.hid (hy.below KW_0.out)
  have Y'_0 := Lib.hid (hy'.below KW_0.out)
  have FZ := Lib.hid (fun w1 (h : Rd w1 d i j lz) (h' : Rd w1 d' i' j' lz') => few_c (s := o) h h')
  rw [decide_eq_true fz] at FZ
  have Z_0 := Lib.hid (hz.below KW_0.out)
  have Z'_0 := Lib.hid (hz'.below KW_0.out)
  have lX : lx.length ≤ 3 := by rw [hx.len_eq]; exact fx.1
  have lX' : lx'.length ≤ 3 := by rw [hx'.len_eq]; exact fx.2
  have nX : Ra w (.agg #[.bool s, .slice a n c, .slice a' n' c']) (rv s (nv lx) (nv lx')) 3 := ⟨_, _, _, _, _, rfl, hx.toNm rfl lX, hx'.toNm rfl lX', rfl⟩
  obtain ⟨p, hXq⟩ : ∃ q, rv s (nv lx) (nv lx') = q := ⟨_, rfl⟩
  rw [hXq] at nX h1
  have NX_0 := Lib.hid (nX.keep KW_0.out)
  have rbp := nX.rb (by omega)
  have lY : ly.length ≤ 3 := by rw [hy.len_eq]; exact fy.1
  have lY' : ly'.length ≤ 3 := by rw [hy'.len_eq]; exact fy.2
  have nY : Ra w (.agg #[.bool t, .slice b m g, .slice b' m' g']) (rv t (nv ly) (nv ly')) 3 := ⟨_, _, _, _, _, rfl, hy.toNm rfl lY, hy'.toNm rfl lY', rfl⟩
  obtain ⟨q, hYq⟩ : ∃ q, rv t (nv ly) (nv ly') = q := ⟨_, rfl⟩
  rw [hYq] at nY h1 h2
  have NY_0 := Lib.hid (nY.keep KW_0.out)
  have rbq := nY.rb (by omega)
  have lZ : lz.length ≤ 3 := by rw [hz.len_eq]; exact fz.1
  have lZ' : lz'.length ≤ 3 := by rw [hz'.len_eq]; exact fz.2
  have nZ : Ra w (.agg #[.bool o, .slice d i j, .slice d' i' j']) (rv o (nv lz) (nv lz')) 3 := ⟨_, _, _, _, _, rfl, hz.toNm rfl lZ, hz'.toNm rfl lZ', rfl⟩
  obtain ⟨r, hZq⟩ : ∃ q, rv o (nv lz) (nv lz') = q := ⟨_, rfl⟩
  rw [hZq] at nZ h2
  have NZ_0 := Lib.hid (nZ.keep KW_0.out)
  have rbr := nZ.rb (by omega)
  have rb1 : Rb (p + r) 7 := (rbp.add rbr).up (by omega)
  have rb2 : Rb (q + r) 7 := (rbq.add rbr).up (by omega)
  have rb3 : Rb (p * r) 6 := (rbp.mul rbr (by omega)).up (by omega)
  have rb4 : Rb (q * r) 6 := (rbq.mul rbr (by omega)).up (by omega)
  have C1 := Lib.hid (fun w1 (hu : Ra w1 (.agg #[.bool s, .slice a n c, .slice a' n' c']) p 3) (hv : Ra w1 (.agg #[.bool t, .slice b m g, .slice b' m' g']) q 3) => qcmp_c (hu) (hv) (by omega) (by omega))
  have C2 := Lib.hid (fun w1 (hu : Ra w1 (.agg #[.bool s, .slice a n c, .slice a' n' c']) p 3) (hv : Ra w1 (.agg #[.bool t, .slice b m g, .slice b' m' g']) q 3) => rqcmp_c (hu) (hv) (by omega) (by omega))
  have C3 := Lib.hid (fun w1 (hu : Ra w1 (.agg #[.bool t, .slice b m g, .slice b' m' g']) q 3) (hv : Ra w1 (.agg #[.bool s, .slice a n c, .slice a' n' c']) p 3) => qcmp_c (hu) (hv) (by omega) (by omega))
  have C4 := Lib.hid (fun w1 (hu : Ra w1 (.agg #[.bool t, .slice b m g, .slice b' m' g']) q 3) (hv : Ra w1 (.agg #[.bool o, .slice d i j, .slice d' i' j']) r 3) => qcmp_c (hu) (hv) (by omega) (by omega))
  have C5 := Lib.hid (fun w1 (hu : Ra w1 (.agg #[.bool s, .slice a n c, .slice a' n' c']) p 3) (hv : Ra w1 (.agg #[.bool o, .slice d i j, .slice d' i' j']) r 3) => qcmp_c (hu) (hv) (by omega) (by omega))
  have MI := Lib.hid (fun w1 (hu : Ra w1 (.agg #[.bool s, .slice a n c, .slice a' n' c']) p 3) (hv : Ra w1 (.agg #[.bool t, .slice b m g, .slice b' m' g']) q 3) (hT1 : Tab w1) => qmin_c (hu) (hv) (by omega) (by omega) hT1)
  have RI := Lib.hid (fun w1 (hu : Ra w1 (.agg #[.bool s, .slice a n c, .slice a' n' c']) p 3) (hv : Ra w1 (.agg #[.bool t, .slice b m g, .slice b' m' g']) q 3) => rqmin_c (hu) (hv) (by omega) (by omega))
  have MA := Lib.hid (fun w1 (hu : Ra w1 (.agg #[.bool s, .slice a n c, .slice a' n' c']) p 3) (hv : Ra w1 (.agg #[.bool t, .slice b m g, .slice b' m' g']) q 3) (hT1 : Tab w1) => qmax_c (hu) (hv) (by omega) (by omega) hT1)
  have RA := Lib.hid (fun w1 (hu : Ra w1 (.agg #[.bool s, .slice a n c, .slice a' n' c']) p 3) (hv : Ra w1 (.agg #[.bool t, .slice b m g, .slice b' m' g']) q 3) => rqmax_c (hu) (hv) (by omega) (by omega))
  have A1 := Lib.hid (fun w1 (hu : Ra w1 (.agg #[.bool s, .slice a n c, .slice a' n' c']) p 3) (hv : Ra w1 (.agg #[.bool o, .slice d i j, .slice d' i' j']) r 3) (hT1 : Tab w1) => qadd_c (hu) (hv) (by omega) (by omega) hT1)
  have A2 := Lib.hid (fun w1 (hu : Ra w1 (.agg #[.bool t, .slice b m g, .slice b' m' g']) q 3) (hv : Ra w1 (.agg #[.bool o, .slice d i j, .slice d' i' j']) r 3) (hT1 : Tab w1) => qadd_c (hu) (hv) (by omega) (by omega) hT1)
  have C6 := Lib.hid (fun w1 u (hu : Cr w1 u (p + r)) v (hv : Cr w1 v (q + r)) => qcmp_c (hu.ra rb1) (hv.ra rb2) (by omega) (by omega))
  rw [rC_add] at C6
  have M1 := Lib.hid (fun w1 (hu : Ra w1 (.agg #[.bool s, .slice a n c, .slice a' n' c']) p 3) (hv : Ra w1 (.agg #[.bool o, .slice d i j, .slice d' i' j']) r 3) (hT1 : Tab w1) => qmul_c (hu) (hv) (by omega) (by omega) hT1)
  have M2 := Lib.hid (fun w1 (hu : Ra w1 (.agg #[.bool t, .slice b m g, .slice b' m' g']) q 3) (hv : Ra w1 (.agg #[.bool o, .slice d i j, .slice d' i' j']) r 3) (hT1 : Tab w1) => qmul_c (hu) (hv) (by omega) (by omega) hT1)
  have C7 := Lib.hid (fun w1 u (hu : Cr w1 u (p * r)) v (hv : Cr w1 v (q * r)) => qcmp_c (hu.ra rb3) (hv.ra rb4) (by omega) (by omega))
  rw [rC_mul] at C7
  have SG := Lib.hid (fun w1 (h : Ra w1 (.agg #[.bool o, .slice d i j, .slice d' i' j']) r 3) => qsign_c h (by omega))
  obtain ⟨mn, hmn⟩ : ∃ x, (if rC p q ≤ 0 then p else q) = x := ⟨_, rfl⟩
  rw [hmn] at MI RI
  obtain ⟨mx, hmx⟩ : ∃ x, (if 0 ≤ rC p q then p else q) = x := ⟨_, rfl⟩
  rw [hmx] at MA RA
  have w1 := rC_wrap p q
  have m1 := mul_range (rC_range p q) (rS_range r)
  have m2 := mul_range' (rC_range p q) (rS_range r)
  have h3 : ¬ 0 < rC p r := by
    have := rC_le.2 (Rat.le_trans (rC_le.1 h1) (rC_le.1 h2))
    omega
  obtain ⟨z, hzv⟩ : ∃ z, rC p q = z := ⟨_, rfl⟩
  obtain ⟨zn, hzn⟩ : ∃ z, rC q p = z := ⟨_, rfl⟩
  obtain ⟨y, hyv⟩ : ∃ z, rC q r = z := ⟨_, rfl⟩
  obtain ⟨x, hxv⟩ : ∃ z, rC p r = z := ⟨_, rfl⟩
  obtain ⟨sg, hsg⟩ : ∃ z, rS r = z := ⟨_, rfl⟩
  rw [hzv] at C1 C2 C6 C7 w1 m1 m2 h1
  rw [hzn] at C3 w1
  rw [hyv] at C4 h2
  rw [hxv] at C5 h3
  rw [hsg] at SG C7 m1 m2
  obtain ⟨w1, w2⟩ := w1
  obtain ⟨ms, hms⟩ : ∃ m, z * sg = m := ⟨_, rfl⟩
  rw [hms] at C7
  have m3 : wrap64 (z * sg) = ms := m1.trans hms
  have m4 : IntKind.i64.wrap (z * sg) = ms := m2.trans hms
  have d1 : decide (z ≤ 0) = true := decide_eq_true h1
  have d2 : decide (y ≤ 0) = true := decide_eq_true h2
  have d3 : decide (0 < x) = false := decide_eq_false h3
  clear hT hx hx' fx lX lX' nX hy hy' fy lY lY' nY hz hz' fz lZ lZ' nZ hXq hYq hZq rbp rbq rbr rb1 rb2 rb3 rb4 hmn hmx hzv hzn hyv hxv hsg hms m1 m2 h1 h2 h3
  go_enter Tryd.func7, Tryd.ntmps7
  obtain ⟨B_c0, B_c1, B_c2, -, -, -, -⟩ := id B_0.out
  obtain ⟨C_c0, C_c1, C_c2, -, -, -, -⟩ := id C_0.out
  obtain ⟨D_c0, D_c1, D_c2, -, -, -, -⟩ := id D_0.out
  go_wp2_with fail
  refine Calls.mono (AW.out _ T_0.out) ?_
  rintro e w1 ⟨rfl, k1⟩
  clear B_c0 B_c1 B_c2 C_c0 C_c1 C_c2 D_c0 D_c1 D_c2
  have T_1 := Lib.hid (T_0.out.keep k1)
  have X_1 := Lib.hid (X_0.out.keep k1)
  have X'_1 := Lib.hid (X'_0.out.keep k1)
  have NX_1 := Lib.hid (NX_0.out.keep k1)
  have Y_1 := Lib.hid (Y_0.out.keep k1)
  have Y'_1 := Lib.hid (Y'_0.out.keep k1)
  have NY_1 := Lib.hid (NY_0.out.keep k1)
  have Z_1 := Lib.hid (Z_0.out.keep k1)
  have Z'_1 := Lib.hid (Z'_0.out.keep k1)
  have NZ_1 := Lib.hid (NZ_0.out.keep k1)
  have B_1 := Lib.hid (B_0.out.keep k1)
  have C_1 := Lib.hid (C_0.out.keep k1)
  have D_1 := Lib.hid (D_0.out.keep k1)
  have KW_1 := Lib.hid (KW_0.out.trans k1)
  clear k1 T_0 X_0 X'_0 NX_0 Y_0 Y'_0 NY_0 Z_0 Z'_0 NZ_0 B_0 C_0 D_0 KW_0
  obtain ⟨B_c0, B_c1, B_c2, -, -, -, -⟩ := id B_1.out
  obtain ⟨C_c0, C_c1, C_c2, -, -, -, -⟩ := id C_1.out
  obtain ⟨D_c0, D_c1, D_c2, -, -, -, -⟩ := id D_1.out
  go_wp2_with fail
  refine Calls.mono (FX.out _ X_1.out X'_1.out) ?_
  rintro e w2 ⟨rfl, k2⟩
  clear B_c0 B_c1 B_c2 C_c0 C_c1 C_c2 D_c0 D_c1 D_c2
  have T_2 := Lib.hid (T_1.out.keep k2)
  have X_2 := Lib.hid (X_1.out.keep k2)
  have X'_2 := Lib.hid (X'_1.out.keep k2)
  have NX_2 := Lib.hid (NX_1.out.keep k2)
  have Y_2 := Lib.hid (Y_1.out.keep k2)
  have Y'_2 := Lib.hid (Y'_1.out.keep k2)
  have NY_2 := Lib.hid (NY_1.out.keep k2)
  have Z_2 := Lib.hid (Z_1.out.keep k2)
  have Z'_2 := Lib.hid (Z'_1.out.keep k2)
  have NZ_2 := Lib.hid (NZ_1.out.keep k2)
  have B_2 := Lib.hid (B_1.out.keep k2)
  have C_2 := Lib.hid (C_1.out.keep k2)
  have D_2 := Lib.hid (D_1.out.keep k2)
  have KW_2 := Lib.hid (KW_1.out.trans k2)
  clear k2 T_1 X_1 X'_1 NX_1 Y_1 Y'_1 NY_1 Z_1 Z'_1 NZ_1 B_1 C_1 D_1 KW_1
  obtain ⟨B_c0, B_c1, B_c2, -, -, -, -⟩ := id B_2.out
  obtain ⟨C_c0, C_c1, C_c2, -, -, -, -⟩ := id C_2.out
  obtain ⟨D_c0, D_c1, D_c2, -, -, -, -⟩ := id D_2.out
  go_wp2_with fail
  refine Calls.mono (FY.out _ Y_2.out Y'_2.out) ?_
  rintro e w3 ⟨rfl, k3⟩
  clear B_c0 B_c1 B_c2 C_c0 C_c1 C_c2 D_c0 D_c1 D_c2
  have T_3 := Lib.hid (T_2.out.keep k3)
  have X_3 := Lib.hid (X_2.out.keep k3)
  have X'_3 := Lib.hid (X'_2.out.keep k3)
  have NX_3 := Lib.hid (NX_2.out.keep k3)
  have Y_3 := Lib.hid (Y_2.out.keep k3)
  have Y'_3 := Lib.hid (Y'_2.out.keep k3)
  have NY_3 := Lib.hid (NY_2.out.keep k3)
  have Z_3 := Lib.hid (Z_2.out.keep k3)
  have Z'_3 := Lib.hid (Z'_2.out.keep k3)
  have NZ_3 := Lib.hid (NZ_2.out.keep k3)
  have B_3 := Lib.hid (B_2.out.keep k3)
  have C_3 := Lib.hid (C_2.out.keep k3)
  have D_3 := Lib.hid (D_2.out.keep k3)
  have KW_3 := Lib.hid (KW_2.out.trans k3)
  clear k3 T_2 X_2 X'_2 NX_2 Y_2 Y'_2 NY_2 Z_2 Z'_2 NZ_2 B_2 C_2 D_2 KW_2
  obtain ⟨B_c0, B_c1, B_c2, -, -, -, -⟩ := id B_3.out
  obtain ⟨C_c0, C_c1, C_c2, -, -, -, -⟩ := id C_3.out
  obtain ⟨D_c0, D_c1, D_c2, -, -, -, -⟩ := id D_3.out
  go_wp2_with fail
  refine Calls.mono (FZ.out _ Z_3.out Z'_3.out) ?_
  rintro e w4 ⟨rfl, k4⟩
  clear B_c0 B_c1 B_c2 C_c0 C_c1 C_c2 D_c0 D_c1 D_c2
  have T_4 := Lib.hid (T_3.out.keep k4)
  have X_4 := Lib.hid (X_3.out.keep k4)
  have X'_4 := Lib.hid (X'_3.out.keep k4)
  have NX_4 := Lib.hid (NX_3.out.keep k4)
  have Y_4 := Lib.hid (Y_3.out.keep k4)
  have Y'_4 := Lib.hid (Y'_3.out.keep k4)
  have NY_4 := Lib.hid (NY_3.out.keep k4)
  have Z_4 := Lib.hid (Z_3.out.keep k4)
  have Z'_4 := Lib.hid (Z'_3.out.keep k4)
  have NZ_4 := Lib.hid (NZ_3.out.keep k4)
  have B_4 := Lib.hid (B_3.out.keep k4)
  have C_4 := Lib.hid (C_3.out.keep k4)
  have D_4 := Lib.hid (D_3.out.keep k4)
  have KW_4 := Lib.hid (KW_3.out.trans k4)
  clear k4 T_3 X_3 X'_3 NX_3 Y_3 Y'_3 NY_3 Z_3 Z'_3 NZ_3 B_3 C_3 D_3 KW_3
  clear AW FX FY FZ
  clear X_4 X'_4 Y_4 Y'_4 Z_4 Z'_4
  obtain ⟨B_c0, B_c1, B_c2, -, -, -, -⟩ := id B_4.out
  obtain ⟨C_c0, C_c1, C_c2, -, -, -, -⟩ := id C_4.out
  obtain ⟨D_c0, D_c1, D_c2, -, -, -, -⟩ := id D_4.out
  go_wp2_with fail
  refine Calls.mono (C1.out _ NX_4.out NY_4.out) ?_
  rintro e w5 ⟨rfl, k5⟩
  clear B_c0 B_c1 B_c2 C_c0 C_c1 C_c2 D_c0 D_c1 D_c2
  have T_5 := Lib.hid (T_4.out.keep k5)
  have NX_5 := Lib.hid (NX_4.out.keep k5)
  have NY_5 := Lib.hid (NY_4.out.keep k5)
  have NZ_5 := Lib.hid (NZ_4.out.keep k5)
  have B_5 := Lib.hid (B_4.out.keep k5)
  have C_5 := Lib.hid (C_4.out.keep k5)
  have D_5 := Lib.hid (D_4.out.keep k5)
  have KW_5 := Lib.hid (KW_4.out.trans k5)
  clear k5 T_4 NX_4 NY_4 NZ_4 B_4 C_4 D_4 KW_4
  obtain ⟨B_c0, B_c1, B_c2, -, -, -, -⟩ := id B_5.out
  obtain ⟨C_c0, C_c1, C_c2, -, -, -, -⟩ := id C_5.out
  obtain ⟨D_c0, D_c1, D_c2, -, -, -, -⟩ := id D_5.out
  go_wp2_with fail
  refine Calls.mono (C2.out _ NX_5.out NY_5.out) ?_
  rintro e w6 ⟨rfl, k6⟩
  clear B_c0 B_c1 B_c2 C_c0 C_c1 C_c2 D_c0 D_c1 D_c2
  have T_6 := Lib.hid (T_5.out.keep k6)
  have NX_6 := Lib.hid (NX_5.out.keep k6)
  have NY_6 := Lib.hid (NY_5.out.keep k6)
  have NZ_6 := Lib.hid (NZ_5.out.keep k6)
  have B_6 := Lib.hid (B_5.out.keep k6)
  have C_6 := Lib.hid (C_5.out.keep k6)
  have D_6 := Lib.hid (D_5.out.keep k6)
  have KW_6 := Lib.hid (KW_5.out.trans k6)
  clear k6 T_5 NX_5 NY_5 NZ_5 B_5 C_5 D_5 KW_5
  obtain ⟨B_c0, B_c1, B_c2, -, -, -, -⟩ := id B_6.out
  obtain ⟨C_c0, C_c1, C_c2, -, -, -, -⟩ := id C_6.out
  obtain ⟨D_c0, D_c1, D_c2, -, -, -, -⟩ := id D_6.out
  go_wp2_with fail
  refine Calls.mono (C3.out _ NY_6.out NX_6.out) ?_
  rintro e w7 ⟨rfl, k7⟩
  clear B_c0 B_c1 B_c2 C_c0 C_c1 C_c2 D_c0 D_c1 D_c2
  have T_7 := Lib.hid (T_6.out.keep k7)
  have NX_7 := Lib.hid (NX_6.out.keep k7)
  have NY_7 := Lib.hid (NY_6.out.keep k7)
  have NZ_7 := Lib.hid (NZ_6.out.keep k7)
  have B_7 := Lib.hid (B_6.out.keep k7)
  have C_7 := Lib.hid (C_6.out.keep k7)
  have D_7 := Lib.hid (D_6.out.keep k7)
  have KW_7 := Lib.hid (KW_6.out.trans k7)
  clear k7 T_6 NX_6 NY_6 NZ_6 B_6 C_6 D_6 KW_6
  obtain ⟨B_c0, B_c1, B_c2, -, -, -, -⟩ := id B_7.out
  obtain ⟨C_c0, C_c1, C_c2, -, -, -, -⟩ := id C_7.out
  obtain ⟨D_c0, D_c1, D_c2, -, -, -, -⟩ := id D_7.out
  go_wp2_with fail
  refine Calls.mono (C4.out _ NY_7.out NZ_7.out) ?_
  rintro e w8 ⟨rfl, k8⟩
  clear B_c0 B_c1 B_c2 C_c0 C_c1 C_c2 D_c0 D_c1 D_c2
  have T_8 := Lib.hid (T_7.out.keep k8)
  have NX_8 := Lib.hid (NX_7.out.keep k8)
  have NY_8 := Lib.hid (NY_7.out.keep k8)
  have NZ_8 := Lib.hid (NZ_7.out.keep k8)
  have B_8 := Lib.hid (B_7.out.keep k8)
  have C_8 := Lib.hid (C_7.out.keep k8)
  have D_8 := Lib.hid (D_7.out.keep k8)
  have KW_8 := Lib.hid (KW_7.out.trans k8)
  clear k8 T_7 NX_7 NY_7 NZ_7 B_7 C_7 D_7 KW_7
  obtain ⟨B_c0, B_c1, B_c2, -, -, -, -⟩ := id B_8.out
  obtain ⟨C_c0, C_c1, C_c2, -, -, -, -⟩ := id C_8.out
  obtain ⟨D_c0, D_c1, D_c2, -, -, -, -⟩ := id D_8.out
  go_wp2_with fail
  refine Calls.mono (C5.out _ NX_8.out NZ_8.out) ?_
  rintro e w9 ⟨rfl, k9⟩
  clear B_c0 B_c1 B_c2 C_c0 C_c1 C_c2 D_c0 D_c1 D_c2
  have T_9 := Lib.hid (T_8.out.keep k9)
  have NX_9 := Lib.hid (NX_8.out.keep k9)
  have NY_9 := Lib.hid (NY_8.out.keep k9)
  have NZ_9 := Lib.hid (NZ_8.out.keep k9)
  have B_9 := Lib.hid (B_8.out.keep k9)
  have C_9 := Lib.hid (C_8.out.keep k9)
  have D_9 := Lib.hid (D_8.out.keep k9)
  have KW_9 := Lib.hid (KW_8.out.trans k9)
  clear k9 T_8 NX_8 NY_8 NZ_8 B_8 C_8 D_8 KW_8
  clear C1 C2 C3 C4 C5
  obtain ⟨oB_0, oB_1, oB_2, -, -, -, -⟩ := id B_9.out
  obtain ⟨oC_0, oC_1, oC_2, -, -, -, -⟩ := id C_9.out
  obtain ⟨oD_0, oD_1, oD_2, -, -, -, -⟩ := id D_9.out
  have T_10 := Lib.hid (T_9.out.keep (keep_drew _))
  clear T_9
  have NX_10 := Lib.hid (NX_9.out.keep (keep_drew _))
  clear NX_9
  have NY_10 := Lib.hid (NY_9.out.keep (keep_drew _))
  clear NY_9
  have NZ_10 := Lib.hid (NZ_9.out.keep (keep_drew _))
  clear NZ_9
  have B_10 := Lib.hid (B_9.out.keep (keep_drew _))
  clear B_9
  have C_10 := Lib.hid (C_9.out.keep (keep_drew _))
  clear C_9
  have D_10 := Lib.hid (D_9.out.keep (keep_drew _))
  clear D_9
  have KW_10 := Lib.hid (KW_9.out.trans (keep_drew _))
  clear KW_9
  obtain ⟨cB_10_0, cB_10_1, cB_10_2, -, -, -, -⟩ := id B_10.out
  obtain ⟨cC_10_0, cC_10_1, cC_10_2, -, -, -, -⟩ := id C_10.out
  go_wp2
  go_region_held3 (fun w' => w'.cell? ⟨w.heap.size, 0, none⟩ = some (.bool s) ∧ w'.cell? ⟨w.heap.size, 1, none⟩ = some (.slice a n c) ∧ w'.cell? ⟨w.heap.size, 2, none⟩ = some (.slice a' n' c') ∧ w'.cell? ⟨w.heap.size + 1, 0, none⟩ = some (.bool t) ∧ w'.cell? ⟨w.heap.size + 1, 1, none⟩ = some (.slice b m g) ∧ w'.cell? ⟨w.heap.size + 1, 2, none⟩ = some (.slice b' m' g')) (first | exact ⟨cB_16_0, cB_16_1, cB_16_2, cC_16_0, cC_16_1, cC_16_2⟩ | exact ⟨cB_15_0, cB_15_1, cB_15_2, cC_15_0, cC_15_1, cC_15_2⟩ | exact ⟨cB_14_0, cB_14_1, cB_14_2, cC_14_0, cC_14_1, cC_14_2⟩ | exact ⟨cB_13_0, cB_13_1, cB_13_2, cC_13_0, cC_13_1, cC_13_2⟩ | exact ⟨cB_12_0, cB_12_1, cB_12_2, cC_12_0, cC_12_1, cC_12_2⟩ | exact ⟨cB_11_0, cB_11_1, cB_11_2, cC_11_0, cC_11_1, cC_11_2⟩ | exact ⟨cB_10_0, cB_10_1, cB_10_2, cC_10_0, cC_10_1, cC_10_2⟩ | go_keep)
    (first
      | (go_at_call 14; ((with_reducible refine Calls.mono (qsame_t F_15.out G_15.out) ?_); rintro e w16 ⟨rfl, k16⟩; have T_16 := Lib.hid (T_15.out.keep k16); have NX_16 := Lib.hid (NX_15.out.keep k16); have NY_16 := Lib.hid (NY_15.out.keep k16); have NZ_16 := Lib.hid (NZ_15.out.keep k16); have B_16 := Lib.hid (B_15.out.keep k16); have C_16 := Lib.hid (C_15.out.keep k16); have D_16 := Lib.hid (D_15.out.keep k16); have A_16 := Lib.hid (A_15.out.keep k16); have E_16 := Lib.hid (E_15.out.keep k16); have F_16 := Lib.hid (F_15.out.keep k16); have G_16 := Lib.hid (G_15.out.keep k16); have KW_16 := Lib.hid (KW_15.out.trans k16); obtain ⟨cB_16_0, cB_16_1, cB_16_2, -, -, -, -⟩ := id B_16.out; obtain ⟨cC_16_0, cC_16_1, cC_16_2, -, -, -, -⟩ := id C_16.out; clear k16))
      | (go_at_call 43; ((with_reducible refine Calls.mono (RA.out _ NX_14.out NY_14.out) ?_); rintro e w15 ⟨x4, rfl, hD, k15⟩; have T_15 := Lib.hid (T_14.out.keep k15); have NX_15 := Lib.hid (NX_14.out.keep k15); have NY_15 := Lib.hid (NY_14.out.keep k15); have NZ_15 := Lib.hid (NZ_14.out.keep k15); have B_15 := Lib.hid (B_14.out.keep k15); have C_15 := Lib.hid (C_14.out.keep k15); have D_15 := Lib.hid (D_14.out.keep k15); have A_15 := Lib.hid (A_14.out.keep k15); have E_15 := Lib.hid (E_14.out.keep k15); have F_15 := Lib.hid (F_14.out.keep k15); have G_15 := Lib.hid hD; clear hD; have KW_15 := Lib.hid (KW_14.out.trans k15); obtain ⟨cB_15_0, cB_15_1, cB_15_2, -, -, -, -⟩ := id B_15.out; obtain ⟨cC_15_0, cC_15_1, cC_15_2, -, -, -, -⟩ := id C_15.out; clear k15))
      | (go_at_call 42; ((with_reducible refine Calls.mono (MA.out _ NX_13.out NY_13.out T_13.out) ?_); rintro e w14 ⟨x3, rfl, hC, k14⟩; have T_14 := Lib.hid (T_13.out.keep k14); have NX_14 := Lib.hid (NX_13.out.keep k14); have NY_14 := Lib.hid (NY_13.out.keep k14); have NZ_14 := Lib.hid (NZ_13.out.keep k14); have B_14 := Lib.hid (B_13.out.keep k14); have C_14 := Lib.hid (C_13.out.keep k14); have D_14 := Lib.hid (D_13.out.keep k14); have A_14 := Lib.hid (A_13.out.keep k14); have E_14 := Lib.hid (E_13.out.keep k14); have F_14 := Lib.hid hC; clear hC; have KW_14 := Lib.hid (KW_13.out.trans k14); obtain ⟨cB_14_0, cB_14_1, cB_14_2, -, -, -, -⟩ := id B_14.out; obtain ⟨cC_14_0, cC_14_1, cC_14_2, -, -, -, -⟩ := id C_14.out; clear k14))
      | (go_at_call 14; ((with_reducible refine Calls.mono (qsame_t A_12.out E_12.out) ?_); rintro e w13 ⟨rfl, k13⟩; have T_13 := Lib.hid (T_12.out.keep k13); have NX_13 := Lib.hid (NX_12.out.keep k13); have NY_13 := Lib.hid (NY_12.out.keep k13); have NZ_13 := Lib.hid (NZ_12.out.keep k13); have B_13 := Lib.hid (B_12.out.keep k13); have C_13 := Lib.hid (C_12.out.keep k13); have D_13 := Lib.hid (D_12.out.keep k13); have A_13 := Lib.hid (A_12.out.keep k13); have E_13 := Lib.hid (E_12.out.keep k13); have KW_13 := Lib.hid (KW_12.out.trans k13); obtain ⟨cB_13_0, cB_13_1, cB_13_2, -, -, -, -⟩ := id B_13.out; obtain ⟨cC_13_0, cC_13_1, cC_13_2, -, -, -, -⟩ := id C_13.out; clear k13))
      | (go_at_call 41; ((with_reducible refine Calls.mono (RI.out _ NX_11.out NY_11.out) ?_); rintro e w12 ⟨x2, rfl, hB, k12⟩; have T_12 := Lib.hid (T_11.out.keep k12); have NX_12 := Lib.hid (NX_11.out.keep k12); have NY_12 := Lib.hid (NY_11.out.keep k12); have NZ_12 := Lib.hid (NZ_11.out.keep k12); have B_12 := Lib.hid (B_11.out.keep k12); have C_12 := Lib.hid (C_11.out.keep k12); have D_12 := Lib.hid (D_11.out.keep k12); have A_12 := Lib.hid (A_11.out.keep k12); have E_12 := Lib.hid hB; clear hB; have KW_12 := Lib.hid (KW_11.out.trans k12); obtain ⟨cB_12_0, cB_12_1, cB_12_2, -, -, -, -⟩ := id B_12.out; obtain ⟨cC_12_0, cC_12_1, cC_12_2, -, -, -, -⟩ := id C_12.out; clear k12))
      | (go_at_call 40; ((with_reducible refine Calls.mono (MI.out _ NX_10.out NY_10.out T_10.out) ?_); rintro e w11 ⟨x1, rfl, hA, k11⟩; have T_11 := Lib.hid (T_10.out.keep k11); have NX_11 := Lib.hid (NX_10.out.keep k11); have NY_11 := Lib.hid (NY_10.out.keep k11); have NZ_11 := Lib.hid (NZ_10.out.keep k11); have B_11 := Lib.hid (B_10.out.keep k11); have C_11 := Lib.hid (C_10.out.keep k11); have D_11 := Lib.hid (D_10.out.keep k11); have A_11 := Lib.hid hA; clear hA; have KW_11 := Lib.hid (KW_10.out.trans k11); obtain ⟨cB_11_0, cB_11_1, cB_11_2, -, -, -, -⟩ := id B_11.out; obtain ⟨cC_11_0, cC_11_1, cC_11_2, -, -, -, -⟩ := id C_11.out; clear k11)))
  clear cB_16_0 cB_16_1 cB_16_2 cC_16_0 cC_16_1 cC_16_2 cB_15_0 cB_15_1 cB_15_2 cC_15_0 cC_15_1 cC_15_2 cB_14_0 cB_14_1 cB_14_2 cC_14_0 cC_14_1 cC_14_2 cB_13_0 cB_13_1 cB_13_2 cC_13_0 cC_13_1 cC_13_2 cB_12_0 cB_12_1 cB_12_2 cC_12_0 cC_12_1 cC_12_2 cB_11_0 cB_11_1 cB_11_2 cC_11_0 cC_11_1 cC_11_2 cB_10_0 cB_10_1 cB_10_2 cC_10_0 cC_10_1 cC_10_2 oB_0 oB_1 oB_2 oC_0 oC_1 oC_2 oD_0 oD_1 oD_2
  clear MI RI MA RA
  clear A_16 E_16 F_16 G_16
  have T_17 := Lib.hid (T_16.out.keep (keep_drew _))
  clear T_16
  have NX_17 := Lib.hid (NX_16.out.keep (keep_drew _))
  clear NX_16
  have NY_17 := Lib.hid (NY_16.out.keep (keep_drew _))
  clear NY_16
  have NZ_17 := Lib.hid (NZ_16.out.keep (keep_drew _))
  clear NZ_16
  have B_17 := Lib.hid (B_16.out.keep (keep_drew _))
  clear B_16
  have C_17 := Lib.hid (C_16.out.keep (keep_drew _))
  clear C_16
  have D_17 := Lib.hid (D_16.out.keep (keep_drew _))
  clear D_16
  have KW_17 := Lib.hid (KW_16.out.trans (keep_drew _))
  clear KW_16
  obtain ⟨cB_17_0, cB_17_1, cB_17_2, -, -, -, -⟩ := id B_17.out
  obtain ⟨cC_17_0, cC_17_1, cC_17_2, -, -, -, -⟩ := id C_17.out
  obtain ⟨cD_17_0, cD_17_1, cD_17_2, -, -, -, -⟩ := id D_17.out
  go_wp2
  go_region_held3 (fun w' => w'.cell? ⟨w.heap.size, 0, none⟩ = some (.bool s) ∧ w'.cell? ⟨w.heap.size, 1, none⟩ = some (.slice a n c) ∧ w'.cell? ⟨w.heap.size, 2, none⟩ = some (.slice a' n' c') ∧ w'.cell? ⟨w.heap.size + 1, 0, none⟩ = some (.bool t) ∧ w'.cell? ⟨w.heap.size + 1, 1, none⟩ = some (.slice b m g) ∧ w'.cell? ⟨w.heap.size + 1, 2, none⟩ = some (.slice b' m' g') ∧ w'.cell? ⟨w.heap.size + 1 + 1, 0, none⟩ = some (.bool o) ∧ w'.cell? ⟨w.heap.size + 1 + 1, 1, none⟩ = some (.slice d i j) ∧ w'.cell? ⟨w.heap.size + 1 + 1, 2, none⟩ = some (.slice d' i' j')) (first | exact ⟨cB_24_0, cB_24_1, cB_24_2, cC_24_0, cC_24_1, cC_24_2, cD_24_0, cD_24_1, cD_24_2⟩ | exact ⟨cB_23_0, cB_23_1, cB_23_2, cC_23_0, cC_23_1, cC_23_2, cD_23_0, cD_23_1, cD_23_2⟩ | exact ⟨cB_22_0, cB_22_1, cB_22_2, cC_22_0, cC_22_1, cC_22_2, cD_22_0, cD_22_1, cD_22_2⟩ | exact ⟨cB_21_0, cB_21_1, cB_21_2, cC_21_0, cC_21_1, cC_21_2, cD_21_0, cD_21_1, cD_21_2⟩ | exact ⟨cB_20_0, cB_20_1, cB_20_2, cC_20_0, cC_20_1, cC_20_2, cD_20_0, cD_20_1, cD_20_2⟩ | exact ⟨cB_19_0, cB_19_1, cB_19_2, cC_19_0, cC_19_1, cC_19_2, cD_19_0, cD_19_1, cD_19_2⟩ | exact ⟨cB_18_0, cB_18_1, cB_18_2, cC_18_0, cC_18_1, cC_18_2, cD_18_0, cD_18_1, cD_18_2⟩ | exact ⟨cB_17_0, cB_17_1, cB_17_2, cC_17_0, cC_17_1, cC_17_2, cD_17_0, cD_17_1, cD_17_2⟩ | go_keep)
    (first
      | (go_at_call 24; ((with_reducible refine Calls.mono (SG.out _ NZ_23.out) ?_); rintro e w24 ⟨rfl, k24⟩; have T_24 := Lib.hid (T_23.out.keep k24); have NX_24 := Lib.hid (NX_23.out.keep k24); have NY_24 := Lib.hid (NY_23.out.keep k24); have NZ_24 := Lib.hid (NZ_23.out.keep k24); have B_24 := Lib.hid (B_23.out.keep k24); have C_24 := Lib.hid (C_23.out.keep k24); have D_24 := Lib.hid (D_23.out.keep k24); have A_24 := Lib.hid (A_23.out.keep k24); have E_24 := Lib.hid (E_23.out.keep k24); have F_24 := Lib.hid (F_23.out.keep k24); have G_24 := Lib.hid (G_23.out.keep k24); have KW_24 := Lib.hid (KW_23.out.trans k24); obtain ⟨cB_24_0, cB_24_1, cB_24_2, -, -, -, -⟩ := id B_24.out; obtain ⟨cC_24_0, cC_24_1, cC_24_2, -, -, -, -⟩ := id C_24.out; obtain ⟨cD_24_0, cD_24_1, cD_24_2, -, -, -, -⟩ := id D_24.out; clear k24))
      | (go_at_call 38; ((with_reducible refine Calls.mono (C7.out _ _ F_22.out _ G_22.out) ?_); rintro e w23 ⟨rfl, k23⟩; have T_23 := Lib.hid (T_22.out.keep k23); have NX_23 := Lib.hid (NX_22.out.keep k23); have NY_23 := Lib.hid (NY_22.out.keep k23); have NZ_23 := Lib.hid (NZ_22.out.keep k23); have B_23 := Lib.hid (B_22.out.keep k23); have C_23 := Lib.hid (C_22.out.keep k23); have D_23 := Lib.hid (D_22.out.keep k23); have A_23 := Lib.hid (A_22.out.keep k23); have E_23 := Lib.hid (E_22.out.keep k23); have F_23 := Lib.hid (F_22.out.keep k23); have G_23 := Lib.hid (G_22.out.keep k23); have KW_23 := Lib.hid (KW_22.out.trans k23); obtain ⟨cB_23_0, cB_23_1, cB_23_2, -, -, -, -⟩ := id B_23.out; obtain ⟨cC_23_0, cC_23_1, cC_23_2, -, -, -, -⟩ := id C_23.out; obtain ⟨cD_23_0, cD_23_1, cD_23_2, -, -, -, -⟩ := id D_23.out; clear k23))
      | (go_at_call 29; ((with_reducible refine Calls.mono (M2.out _ NY_21.out NZ_21.out T_21.out) ?_); rintro e w22 ⟨x8, rfl, hD, k22⟩; have T_22 := Lib.hid (T_21.out.keep k22); have NX_22 := Lib.hid (NX_21.out.keep k22); have NY_22 := Lib.hid (NY_21.out.keep k22); have NZ_22 := Lib.hid (NZ_21.out.keep k22); have B_22 := Lib.hid (B_21.out.keep k22); have C_22 := Lib.hid (C_21.out.keep k22); have D_22 := Lib.hid (D_21.out.keep k22); have A_22 := Lib.hid (A_21.out.keep k22); have E_22 := Lib.hid (E_21.out.keep k22); have F_22 := Lib.hid (F_21.out.keep k22); have G_22 := Lib.hid hD; clear hD; have KW_22 := Lib.hid (KW_21.out.trans k22); obtain ⟨cB_22_0, cB_22_1, cB_22_2, -, -, -, -⟩ := id B_22.out; obtain ⟨cC_22_0, cC_22_1, cC_22_2, -, -, -, -⟩ := id C_22.out; obtain ⟨cD_22_0, cD_22_1, cD_22_2, -, -, -, -⟩ := id D_22.out; clear k22))
      | (go_at_call 29; ((with_reducible refine Calls.mono (M1.out _ NX_20.out NZ_20.out T_20.out) ?_); rintro e w21 ⟨x7, rfl, hC, k21⟩; have T_21 := Lib.hid (T_20.out.keep k21); have NX_21 := Lib.hid (NX_20.out.keep k21); have NY_21 := Lib.hid (NY_20.out.keep k21); have NZ_21 := Lib.hid (NZ_20.out.keep k21); have B_21 := Lib.hid (B_20.out.keep k21); have C_21 := Lib.hid (C_20.out.keep k21); have D_21 := Lib.hid (D_20.out.keep k21); have A_21 := Lib.hid (A_20.out.keep k21); have E_21 := Lib.hid (E_20.out.keep k21); have F_21 := Lib.hid hC; clear hC; have KW_21 := Lib.hid (KW_20.out.trans k21); obtain ⟨cB_21_0, cB_21_1, cB_21_2, -, -, -, -⟩ := id B_21.out; obtain ⟨cC_21_0, cC_21_1, cC_21_2, -, -, -, -⟩ := id C_21.out; obtain ⟨cD_21_0, cD_21_1, cD_21_2, -, -, -, -⟩ := id D_21.out; clear k21))
      | (go_at_call 38; ((with_reducible refine Calls.mono (C6.out _ _ A_19.out _ E_19.out) ?_); rintro e w20 ⟨rfl, k20⟩; have T_20 := Lib.hid (T_19.out.keep k20); have NX_20 := Lib.hid (NX_19.out.keep k20); have NY_20 := Lib.hid (NY_19.out.keep k20); have NZ_20 := Lib.hid (NZ_19.out.keep k20); have B_20 := Lib.hid (B_19.out.keep k20); have C_20 := Lib.hid (C_19.out.keep k20); have D_20 := Lib.hid (D_19.out.keep k20); have A_20 := Lib.hid (A_19.out.keep k20); have E_20 := Lib.hid (E_19.out.keep k20); have KW_20 := Lib.hid (KW_19.out.trans k20); obtain ⟨cB_20_0, cB_20_1, cB_20_2, -, -, -, -⟩ := id B_20.out; obtain ⟨cC_20_0, cC_20_1, cC_20_2, -, -, -, -⟩ := id C_20.out; obtain ⟨cD_20_0, cD_20_1, cD_20_2, -, -, -, -⟩ := id D_20.out; clear k20))
      | (go_at_call 32; ((with_reducible refine Calls.mono (A2.out _ NY_18.out NZ_18.out T_18.out) ?_); rintro e w19 ⟨x6, rfl, hB, k19⟩; have T_19 := Lib.hid (T_18.out.keep k19); have NX_19 := Lib.hid (NX_18.out.keep k19); have NY_19 := Lib.hid (NY_18.out.keep k19); have NZ_19 := Lib.hid (NZ_18.out.keep k19); have B_19 := Lib.hid (B_18.out.keep k19); have C_19 := Lib.hid (C_18.out.keep k19); have D_19 := Lib.hid (D_18.out.keep k19); have A_19 := Lib.hid (A_18.out.keep k19); have E_19 := Lib.hid hB; clear hB; have KW_19 := Lib.hid (KW_18.out.trans k19); obtain ⟨cB_19_0, cB_19_1, cB_19_2, -, -, -, -⟩ := id B_19.out; obtain ⟨cC_19_0, cC_19_1, cC_19_2, -, -, -, -⟩ := id C_19.out; obtain ⟨cD_19_0, cD_19_1, cD_19_2, -, -, -, -⟩ := id D_19.out; clear k19))
      | (go_at_call 32; ((with_reducible refine Calls.mono (A1.out _ NX_17.out NZ_17.out T_17.out) ?_); rintro e w18 ⟨x5, rfl, hA, k18⟩; have T_18 := Lib.hid (T_17.out.keep k18); have NX_18 := Lib.hid (NX_17.out.keep k18); have NY_18 := Lib.hid (NY_17.out.keep k18); have NZ_18 := Lib.hid (NZ_17.out.keep k18); have B_18 := Lib.hid (B_17.out.keep k18); have C_18 := Lib.hid (C_17.out.keep k18); have D_18 := Lib.hid (D_17.out.keep k18); have A_18 := Lib.hid hA; clear hA; have KW_18 := Lib.hid (KW_17.out.trans k18); obtain ⟨cB_18_0, cB_18_1, cB_18_2, -, -, -, -⟩ := id B_18.out; obtain ⟨cC_18_0, cC_18_1, cC_18_2, -, -, -, -⟩ := id C_18.out; obtain ⟨cD_18_0, cD_18_1, cD_18_2, -, -, -, -⟩ := id D_18.out; clear k18)))
  clear cB_24_0 cB_24_1 cB_24_2 cC_24_0 cC_24_1 cC_24_2 cD_24_0 cD_24_1 cD_24_2 cB_23_0 cB_23_1 cB_23_2 cC_23_0 cC_23_1 cC_23_2 cD_23_0 cD_23_1 cD_23_2 cB_22_0 cB_22_1 cB_22_2 cC_22_0 cC_22_1 cC_22_2 cD_22_0 cD_22_1 cD_22_2 cB_21_0 cB_21_1 cB_21_2 cC_21_0 cC_21_1 cC_21_2 cD_21_0 cD_21_1 cD_21_2 cB_20_0 cB_20_1 cB_20_2 cC_20_0 cC_20_1 cC_20_2 cD_20_0 cD_20_1 cD_20_2 cB_19_0 cB_19_1 cB_19_2 cC_19_0 cC_19_1 cC_19_2 cD_19_0 cD_19_1 cD_19_2 cB_18_0 cB_18_1 cB_18_2 cC_18_0 cC_18_1 cC_18_2 cD_18_0 cD_18_1 cD_18_2 cB_17_0 cB_17_1 cB_17_2 cC_17_0 cC_17_1 cC_17_2 cD_17_0 cD_17_1 cD_17_2
  all_goals
    go_wp2_with fail
    go_ret
    exact ⟨rfl, KW_24.out⟩
theorem cmp_law_s {w : World} {s : Bool} {a a' : Option Addr} {n c n' c' : Nat} {lx lx' : List Nat} {t : Bool} {b b' : Option Addr} {m g m' g' : Nat} {ly ly' : List Nat} {o : Bool} {d d' : Option Addr} {i j i' j' : Nat} {lz lz' : List Nat} (hx : Rd w a n c lx) (hx' : Rd w a' n' c' lx') (hy : Rd w b m g ly) (hy' : Rd w b' m' g' ly') (hz : Rd w d i j lz) (hz' : Rd w d' i' j' lz') (hT : Tab w) (fx : (n ≤ 3 ∧ n' ≤ 3)) (fy : (m ≤ 3 ∧ m' ≤ 3)) (fz : (i ≤ 3 ∧ i' ≤ 3)) : Calls Tryd.prog 7 #[.agg #[.bool s, .slice a n c, .slice a' n' c'], .agg #[.bool t, .slice b m g, .slice b' m' g'], .agg #[.bool o, .slice d i j, .slice d' i' j']] w (BPost true w) := by
  by_cases h1 : rC (rv s (nv lx) (nv lx')) (rv t (nv ly) (nv ly')) ≤ 0
  · by_cases h2 : rC (rv t (nv ly) (nv ly')) (rv o (nv lz) (nv lz')) ≤ 0
    · exact cmp_law_s2 hx hx' hy hy' hz hz' hT fx fy fz h1 h2
    · exact cmp_law_s1 hx hx' hy hy' hz hz' hT fx fy fz h1 h2
  · exact cmp_law_s0 hx hx' hy hy' hz hz' hT fx fy fz h1
theorem cmp_law_c {w : World} {s : Bool} {a a' : Option Addr} {n c n' c' : Nat} {lx lx' : List Nat} {t : Bool} {b b' : Option Addr} {m g m' g' : Nat} {ly ly' : List Nat} {o : Bool} {d d' : Option Addr} {i j i' j' : Nat} {lz lz' : List Nat} (hx : Rd w a n c lx) (hx' : Rd w a' n' c' lx') (hy : Rd w b m g ly) (hy' : Rd w b' m' g' ly') (hz : Rd w d i j lz) (hz' : Rd w d' i' j' lz') (hT : Tab w) : Calls Tryd.prog 7 #[.agg #[.bool s, .slice a n c, .slice a' n' c'], .agg #[.bool t, .slice b m g, .slice b' m' g'], .agg #[.bool o, .slice d i j, .slice d' i' j']] w (BPost true w) := by
  by_cases fx : (n ≤ 3 ∧ n' ≤ 3)
  · skip
    by_cases fy : (m ≤ 3 ∧ m' ≤ 3)
    · skip
      by_cases fz : (i ≤ 3 ∧ i' ≤ 3)
      · exact cmp_law_s hx hx' hy hy' hz hz' hT fx fy fz
      · exact cmp_law_b2 hx hx' hy hy' hz hz' hT fx fy fz
    · exact cmp_law_b1 hx hx' hy hy' hz hz' hT fx fy
  · exact cmp_law_b0 hx hx' hy hy' hz hz' hT fx
end Go.Proofs.YtjkfnnoakjdgmaaDoor
