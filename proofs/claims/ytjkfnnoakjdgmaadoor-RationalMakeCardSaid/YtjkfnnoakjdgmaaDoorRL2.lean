/- Walks of layer 3: the law of sums. -/
import Derived.Test.YtjkfnnoakjdgmaaDoorRL1
namespace Go.Proofs.YtjkfnnoakjdgmaaDoor
open Go.RowKit
set_option linter.unusedVariables false
theorem rat_add_sub (p q : Rat) : p + q - q = p := by
  rw [Rat.sub_eq_add_neg, Rat.add_assoc, show q + -q = 0 from by grind, Rat.add_zero]
theorem rat_mul_div (p : Rat) {q : Rat} (h : q ≠ 0) : p * q / q = p := by
  rw [Rat.div_def, Rat.mul_assoc, Rat.mul_inv_cancel q h, Rat.mul_one]
theorem rat_div_mul (p : Rat) {q : Rat} (h : q ≠ 0) : p / q * q = p := by
  rw [Rat.div_def, Rat.mul_assoc, Rat.inv_mul_cancel q h, Rat.mul_one]
theorem rS_zero {q : Rat} : rS q = 0 ↔ q = 0 := by
  rcases rC_facts q 0 with h | h | h
  · refine ⟨fun e => ?_, fun e => ?_⟩
    · rw [show rS q = rC q 0 from rfl, h.1] at e; cases e
    · subst e; exact rC_self 0
  · exact ⟨fun _ => h.2, fun _ => h.1⟩
  · refine ⟨fun e => ?_, fun e => ?_⟩
    · rw [show rS q = rC q 0 from rfl, h.1] at e; cases e
    · subst e; exact rC_self 0
theorem rC_mulR (p q r : Rat) : rC (p * r) (q * r) = rC p q * rS r := rC_mul p q r
theorem ops3 (w : World) (s : Bool) (a : Option Addr) (n c : Nat) (a' : Option Addr) (n' c' : Nat) (t : Bool) (b : Option Addr) (m g : Nat) (b' : Option Addr) (m' g' : Nat) (o : Bool) (d : Option Addr) (i j : Nat) (d' : Option Addr) (i' j' : Nat) : Hid (QBox (w.heap.size) (.bool s) (.slice a n c) (.slice a' n' c') (((w.alloc (.cells #[.bool s, .slice a n c, .slice a' n' c'] 25)).alloc (.cells #[.bool t, .slice b m g, .slice b' m' g'] 25)).alloc (.cells #[.bool o, .slice d i j, .slice d' i' j'] 25))) ∧ Hid (QBox (w.heap.size + 1) (.bool t) (.slice b m g) (.slice b' m' g') (((w.alloc (.cells #[.bool s, .slice a n c, .slice a' n' c'] 25)).alloc (.cells #[.bool t, .slice b m g, .slice b' m' g'] 25)).alloc (.cells #[.bool o, .slice d i j, .slice d' i' j'] 25))) ∧ Hid (QBox (w.heap.size + 1 + 1) (.bool o) (.slice d i j) (.slice d' i' j') (((w.alloc (.cells #[.bool s, .slice a n c, .slice a' n' c'] 25)).alloc (.cells #[.bool t, .slice b m g, .slice b' m' g'] 25)).alloc (.cells #[.bool o, .slice d i j, .slice d' i' j'] 25))) ∧ Hid (Keep w (((w.alloc (.cells #[.bool s, .slice a n c, .slice a' n' c'] 25)).alloc (.cells #[.bool t, .slice b m g, .slice b' m' g'] 25)).alloc (.cells #[.bool o, .slice d i j, .slice d' i' j'] 25))) :=
  ⟨Lib.hid ((QBox.new w s a n c a' n' c').keep (((Keep.refl _).alloc _).alloc _)), Lib.hid (((QBox.new (w.alloc _) t b m g b' m' g').at (sz1 _ _)).keep ((Keep.refl _).alloc _)), Lib.hid ((QBox.new ((w.alloc _).alloc _) o d i j d' i' j').at (sz2 _ _ _)), Lib.hid ((((Keep.refl w).alloc _).alloc _).alloc _)⟩
set_option maxHeartbeats 4000000 in
theorem add_law_b0 {w : World} {s : Bool} {a a' : Option Addr} {n c n' c' : Nat} {lx lx' : List Nat} {t : Bool} {b b' : Option Addr} {m g m' g' : Nat} {ly ly' : List Nat} {o : Bool} {d d' : Option Addr} {i j i' j' : Nat} {lz lz' : List Nat} (hx : Rd w a n c lx) (hx' : Rd w a' n' c' lx') (hy : Rd w b m g ly) (hy' : Rd w b' m' g' ly') (hz : Rd w d i j lz) (hz' : Rd w d' i' j' lz') (hT : Tab w)  (fx : ¬ (n ≤ 3 ∧ n' ≤ 3)) : Calls Tryd.prog 5 #[.agg #[.bool s, .slice a n c, .slice a' n' c'], .agg #[.bool t, .slice b m g, .slice b' m' g'], .agg #[.bool o, .slice d i j, .slice d' i' j']] w (BPost true w) := by
  obtain ⟨B_0, C_0, D_0, KW_0⟩ := ops3 w s a n c a' n' c' t b m g b' m' g' o d i j d' i' j'
  have T_0 := Lib.hid (hT.keep KW_0.out)
  have AW := Lib.hid (fun w1 (hT1 : Tab w1) => awake_c w1 hT1)
  have FX := Lib.hid (fun w1 (h : Rd w1 a n c lx) (h' : Rd w1 a' n' c' lx') => few_c (s := s) h h')
  rw [decide_eq_false fx] at FX
  have X_0 := Lib.hid (hx.below KW_0.out)
  have X'_0 := Lib.hid (hx'.below KW_0.out)
  clear hT hx hx' hy hy' hz hz'
  go_enter Tryd.func5, Tryd.ntmps5
  obtain ⟨B_c0, B_c1, B_c2, -, -, -, -⟩ := id B_0.out
  obtain ⟨C_c0, C_c1, C_c2, -, -, -, -⟩ := id C_0.out
  obtain ⟨D_c0, D_c1, D_c2, -, -, -, -⟩ := id D_0.out
  go_wp2_with fail
  refine Calls.mono (AW.out _ T_0.out) ?_
  rintro e w1 ⟨rfl, k1⟩
  clear B_c0 B_c1 B_c2 C_c0 C_c1 C_c2 D_c0 D_c1 D_c2
  have T_1 := Lib.hid (T_0.out.keep k1)
  have X_1 := Lib.hid (X_0.out.keep k1)
  have X'_1 := Lib.hid (X'_0.out.keep k1)
  have B_1 := Lib.hid (B_0.out.keep k1)
  have C_1 := Lib.hid (C_0.out.keep k1)
  have D_1 := Lib.hid (D_0.out.keep k1)
  have KW_1 := Lib.hid (KW_0.out.trans k1)
  clear k1 T_0 X_0 X'_0 B_0 C_0 D_0 KW_0
  obtain ⟨B_c0, B_c1, B_c2, -, -, -, -⟩ := id B_1.out
  obtain ⟨C_c0, C_c1, C_c2, -, -, -, -⟩ := id C_1.out
  obtain ⟨D_c0, D_c1, D_c2, -, -, -, -⟩ := id D_1.out
  go_wp2_with fail
  refine Calls.mono (FX.out _ X_1.out X'_1.out) ?_
  rintro e w2 ⟨rfl, k2⟩
  clear B_c0 B_c1 B_c2 C_c0 C_c1 C_c2 D_c0 D_c1 D_c2
  have T_2 := Lib.hid (T_1.out.keep k2)
  have X_2 := Lib.hid (X_1.out.keep k2)
  have X'_2 := Lib.hid (X'_1.out.keep k2)
  have B_2 := Lib.hid (B_1.out.keep k2)
  have C_2 := Lib.hid (C_1.out.keep k2)
  have D_2 := Lib.hid (D_1.out.keep k2)
  have KW_2 := Lib.hid (KW_1.out.trans k2)
  clear k2 T_1 X_1 X'_1 B_1 C_1 D_1 KW_1
  obtain ⟨B_c0, B_c1, B_c2, -, -, -, -⟩ := id B_2.out
  obtain ⟨C_c0, C_c1, C_c2, -, -, -, -⟩ := id C_2.out
  obtain ⟨D_c0, D_c1, D_c2, -, -, -, -⟩ := id D_2.out
  go_wp2_with fail
  go_ret
  exact ⟨rfl, KW_2.out⟩
set_option maxHeartbeats 4000000 in
theorem add_law_b1 {w : World} {s : Bool} {a a' : Option Addr} {n c n' c' : Nat} {lx lx' : List Nat} {t : Bool} {b b' : Option Addr} {m g m' g' : Nat} {ly ly' : List Nat} {o : Bool} {d d' : Option Addr} {i j i' j' : Nat} {lz lz' : List Nat} (hx : Rd w a n c lx) (hx' : Rd w a' n' c' lx') (hy : Rd w b m g ly) (hy' : Rd w b' m' g' ly') (hz : Rd w d i j lz) (hz' : Rd w d' i' j' lz') (hT : Tab w) (fx : (n ≤ 3 ∧ n' ≤ 3)) (fy : ¬ (m ≤ 3 ∧ m' ≤ 3)) : Calls Tryd.prog 5 #[.agg #[.bool s, .slice a n c, .slice a' n' c'], .agg #[.bool t, .slice b m g, .slice b' m' g'], .agg #[.bool o, .slice d i j, .slice d' i' j']] w (BPost true w) := by
  obtain ⟨B_0, C_0, D_0, KW_0⟩ := ops3 w s a n c a' n' c' t b m g b' m' g' o d i j d' i' j'
  have T_0 := Lib.hid (hT.keep KW_0.out)
  have AW := Lib.hid (fun w1 (hT1 : Tab w1) => awake_c w1 hT1)
  have FX := Lib.hid (fun w1 (h : Rd w1 a n c lx) (h' : Rd w1 a' n' c' lx') => few_c (s := s) h h')
  rw [decide_eq_true fx] at FX
  have X_0 := Lib.hid (hx.below KW_0.out)
  have X'_0 := Lib.hid (hx'.below KW_0.out)
  have FY := Lib.hid (fun w1 (h : Rd w1 b m g ly) (h' : Rd w1 b' m' g' ly') => few_c (s := t) h h')
  rw [decide_eq_false fy] at FY
  have Y_0 := Lib.hid (hy.below KW_0.out)
  have Y'_0 := Lib.hid (hy'.below KW_0.out)
  clear hT hx hx' hy hy' hz hz'
  go_enter Tryd.func5, Tryd.ntmps5
  obtain ⟨B_c0, B_c1, B_c2, -, -, -, -⟩ := id B_0.out
  obtain ⟨C_c0, C_c1, C_c2, -, -, -, -⟩ := id C_0.out
  obtain ⟨D_c0, D_c1, D_c2, -, -, -, -⟩ := id D_0.out
  go_wp2_with fail
  refine Calls.mono (AW.out _ T_0.out) ?_
  rintro e w1 ⟨rfl, k1⟩
  clear B_c0 B_c1 B_c2 C_c0 C_c1 C_c2 D_c0 D_c1 D_c2
  have T_1 := Lib.hid (T_0.out.keep k1)
  have X_1 := Lib.hid (X_0.out.keep k1)
  have X'_1 := Lib.hid (X'_0.out.keep k1)
  have Y_1 := Lib.hid (Y_0.out.keep k1)
  have Y'_1 := Lib.hid (Y'_0.out.keep k1)
  have B_1 := Lib.hid (B_0.out.keep k1)
  have C_1 := Lib.hid (C_0.out.keep k1)
  have D_1 := Lib.hid (D_0.out.keep k1)
  have KW_1 := Lib.hid (KW_0.out.trans k1)
  clear k1 T_0 X_0 X'_0 Y_0 Y'_0 B_0 C_0 D_0 KW_0
  obtain ⟨B_c0, B_c1, B_c2, -, -, -, -⟩ := id B_1.out
  obtain ⟨C_c0, C_c1, C_c2, -, -, -, -⟩ := id C_1.out
  obtain ⟨D_c0, D_c1, D_c2, -, -, -, -⟩ := id D_1.out
  go_wp2_with fail
  refine Calls.mono (FX.out _ X_1.out X'_1.out) ?_
  rintro e w2 ⟨rfl, k2⟩
  clear B_c0 B_c1 B_c2 C_c0 C_c1 C_c2 D_c0 D_c1 D_c2
  have T_2 := Lib.hid (T_1.out.keep k2)
  have X_2 := Lib.hid (X_1.out.keep k2)
  have X'_2 := Lib.hid (X'_1.out.keep k2)
  have Y_2 := Lib.hid (Y_1.out.keep k2)
  have Y'_2 := Lib.hid (Y'_1.out.keep k2)
  have B_2 := Lib.hid (B_1.out.keep k2)
  have C_2 := Lib.hid (C_1.out.keep k2)
  have D_2 := Lib.hid (D_1.out.keep k2)
  have KW_2 := Lib.hid (KW_1.out.trans k2)
  clear k2 T_1 X_1 X'_1 Y_1 Y'_1 B_1 C_1 D_1 KW_1
  obtain ⟨B_c0, B_c1, B_c2, -, -, -, -⟩ := id B_2.out
  obtain ⟨C_c0, C_c1, C_c2, -, -, -, -⟩ := id C_2.out
  obtain ⟨D_c0, D_c1, D_c2, -, -, -, -⟩ := id D_2.out
  go_wp2_with fail
  refine Calls.mono (FY.out _ Y_2.out Y'_2.out) ?_
  rintro e w3 ⟨rfl, k3⟩
  clear B_c0 B_c1 B_c2 C_c0 C_c1 C_c2 D_c0 D_c1 D_c2
  have T_3 := Lib.hid (T_2.out.keep k3)
  have X_3 := Lib.hid (X_2.out.keep k3)
  have X'_3 := Lib.hid (X'_2.out.keep k3)
  have Y_3 := Lib.hid (Y_2.out.keep k3)
  have Y'_3 := Lib.hid (Y'_2.out.keep k3)
  have B_3 := Lib.hid (B_2.out.keep k3)
  have C_3 := Lib.hid (C_2.out.keep k3)
  have D_3 := Lib.hid (D_2.out.keep k3)
  have KW_3 := Lib.hid (KW_2.out.trans k3)
  clear k3 T_2 X_2 X'_2 Y_2 Y'_2 B_2 C_2 D_2 KW_2
  obtain ⟨B_c0, B_c1, B_c2, -, -, -, -⟩ := id B_3.out
  obtain ⟨C_c0, C_c1, C_c2, -, -, -, -⟩ := id C_3.out
  obtain ⟨D_c0, D_c1, D_c2, -, -, -, -⟩ := id D_3.out
  go_wp2_with fail
  go_ret
  exact ⟨rfl, KW_3.out⟩
set_option maxHeartbeats 4000000 in
theorem add_law_b2 {w : World} {s : Bool} {a a' : Option Addr} {n c n' c' : Nat} {lx lx' : List Nat} {t : Bool} {b b' : Option Addr} {m g m' g' : Nat} {ly ly' : List Nat} {o : Bool} {d d' : Option Addr} {i j i' j' : Nat} {lz lz' : List Nat} (hx : Rd w a n c lx) (hx' : Rd w a' n' c' lx') (hy : Rd w b m g ly) (hy' : Rd w b' m' g' ly') (hz : Rd w d i j lz) (hz' : Rd w d' i' j' lz') (hT : Tab w) (fx : (n ≤ 3 ∧ n' ≤ 3)) (fy : (m ≤ 3 ∧ m' ≤ 3)) (fz : ¬ (i ≤ 3 ∧ i' ≤ 3)) : Calls Tryd.prog 5 #[.agg #[.bool s, .slice a n c, .slice a' n' c'], .agg #[.bool t, .slice b m g, .slice b' m' g'], .agg #[.bool o, .slice d i j, .slice d' i' j']] w (BPost true w) := by
  obtain ⟨B_0, C_0, D_0, KW_0⟩ := ops3 w s a n c a' n' c' t b m g b' m' g' o d i j d' i' j'
  have T_0 := Lib.hid (hT.keep KW_0.out)
  have AW := Lib.hid (fun w1 (hT1 : Tab w1) => awake_c w1 hT1)
  have FX := Lib.hid (fun w1 (h : Rd w1 a n c lx) (h' : Rd w1 a' n' c' lx') => few_c (s := s) h h')
  rw [decide_eq_true fx] at FX
  have X_0 := Lib.hid (hx.below KW_0.out)
  have X'_0 := Lib.hid (hx'.below KW_0.out)
  have FY := Lib.hid (fun w1 (h : Rd w1 b m g ly) (h' : Rd w1 b' m' g' ly') => few_c (s := t) h h')
  rw [decide_eq_true fy] at FY
  have Y_0 := Lib.hid (hy.below KW_0.out)
  have Y'_0 := Lib.hid (hy'.below KW_0.out)
  have FZ := Lib.hid (fun w1 (h : Rd w1 d i j lz) (h' : Rd w1 d' i' j' lz') => few_c (s := o) h h')
  rw [decide_eq_false fz] at FZ
  have Z_0 := Lib.hid (hz.below KW_0.out)
  have Z'_0 := Lib.hid (hz'.below KW_0.out)
  clear hT hx hx' hy hy' hz hz'
  go_enter Tryd.func5, Tryd.ntmps5
  obtain ⟨B_c0, B_c1, B_c2, -, -, -, -⟩ := id B_0.out
  obtain ⟨C_c0, C_c1, C_c2, -, -, -, -⟩ := id C_0.out
  obtain ⟨D_c0, D_c1, D_c2, -, -, -, -⟩ := id D_0.out
  go_wp2_with fail
  refine Calls.mono (AW.out _ T_0.out) ?_
  rintro e w1 ⟨rfl, k1⟩
  clear B_c0 B_c1 B_c2 C_c0 C_c1 C_c2 D_c0 D_c1 D_c2
  have T_1 := Lib.hid (T_0.out.keep k1)
  have X_1 := Lib.hid (X_0.out.keep k1)
  have X'_1 := Lib.hid (X'_0.out.keep k1)
  have Y_1 := Lib.hid (Y_0.out.keep k1)
  have Y'_1 := Lib.hid (Y'_0.out.keep k1)
  have Z_1 := Lib.hid (Z_0.out.keep k1)
  have Z'_1 := Lib.hid (Z'_0.out.keep k1)
  have B_1 := Lib.hid (B_0.out.keep k1)
  have C_1 := Lib.hid (C_0.out.keep k1)
  have D_1 := Lib.hid (D_0.out.keep k1)
  have KW_1 := Lib.hid (KW_0.out.trans k1)
  clear k1 T_0 X_0 X'_0 Y_0 Y'_0 Z_0 Z'_0 B_0 C_0 D_0 KW_0
  obtain ⟨B_c0, B_c1, B_c2, -, -, -, -⟩ := id B_1.out
  obtain ⟨C_c0, C_c1, C_c2, -, -, -, -⟩ := id C_1.out
  obtain ⟨D_c0, D_c1, D_c2, -, -, -, -⟩ := id D_1.out
  go_wp2_with fail
  refine Calls.mono (FX.out _ X_1.out X'_1.out) ?_
  rintro e w2 ⟨rfl, k2⟩
  clear B_c0 B_c1 B_c2 C_c0 C_c1 C_c2 D_c0 D_c1 D_c2
  have T_2 := Lib.hid (T_1.out.keep k2)
  have X_2 := Lib.hid (X_1.out.keep k2)
  have X'_2 := Lib.hid (X'_1.out.keep k2)
  have Y_2 := Lib.hid (Y_1.out.keep k2)
  have Y'_2 := Lib.hid (Y'_1.out.keep k2)
  have Z_2 := Lib.hid (Z_1.out.keep k2)
  have Z'_2 := Lib.hid (Z'_1.out.keep k2)
  have B_2 := Lib.hid (B_1.out.keep k2)
  have C_2 := Lib.hid (C_1.out.keep k2)
  have D_2 := Lib.hid (D_1.out.keep k2)
  have KW_2 := Lib.hid (KW_1.out.trans k2)
  clear k2 T_1 X_1 X'_1 Y_1 Y'_1 Z_1 Z'_1 B_1 C_1 D_1 KW_1
  obtain ⟨B_c0, B_c1, B_c2, -, -, -, -⟩ := id B_2.out
  obtain ⟨C_c0, C_c1, C_c2, -, -, -, -⟩ := id C_2.out
  obtain ⟨D_c0, D_c1, D_c2, -, -, -, -⟩ := id D_2.out
  go_wp2_with fail
  refine Calls.mono (FY.out _ Y_2.out Y'_2.out) ?_
  rintro e w3 ⟨rfl, k3⟩
  clear B_c0 B_c1 B_c2 C_c0 C_c1 C_c2 D_c0 D_c1 D_c2
  have T_3 := Lib.hid (T_2.out.keep k3)
  have X_3 := Lib.hid (X_2.out.keep k3)
  have X'_3 := Lib.hid (X'_2.out.keep k3)
  have Y_3 := Lib.hid (Y_2.out.keep k3)
  have Y'_3 := Lib.hid (Y'_2.out.keep k3)
  have Z_3 := Lib.hid (Z_2.out.keep k3)
  have Z'_3 := Lib.hid (Z'_2.out.keep k3)
  have B_3 := Lib.hid (B_2.out.keep k3)
  have C_3 := Lib.hid (C_2.out.keep k3)
  have D_3 := Lib.hid (D_2.out.keep k3)
  have KW_3 := Lib.hid (KW_2.out.trans k3)
  clear k3 T_2 X_2 X'_2 Y_2 Y'_2 Z_2 Z'_2 B_2 C_2 D_2 KW_2
  obtain ⟨B_c0, B_c1, B_c2, -, -, -, -⟩ := id B_3.out
  obtain ⟨C_c0, C_c1, C_c2, -, -, -, -⟩ := id C_3.out
  obtain ⟨D_c0, D_c1, D_c2, -, -, -, -⟩ := id D_3.out
  go_wp2_with fail
  refine Calls.mono (FZ.out _ Z_3.out Z'_3.out) ?_
  rintro e w4 ⟨rfl, k4⟩
  clear B_c0 B_c1 B_c2 C_c0 C_c1 C_c2 D_c0 D_c1 D_c2
  have T_4 := Lib.hid (T_3.out.keep k4)
  have X_4 := Lib.hid (X_3.out.keep k4)
  have X'_4 := Lib.hid (X'_3.out.keep k4)
  have Y_4 := Lib.hid (Y_3.out.keep k4)
  have Y'_4 := Lib.hid (Y'_3.out.keep k4)
  have Z_4 := Lib.hid (Z_3.out.keep k4)
  have Z'_4 := Lib.hid (Z'_3.out.keep k4)
  have B_4 := Lib.hid (B_3.out.keep k4)
  have C_4 := Lib.hid (C_3.out.keep k4)
  have D_4 := Lib.hid (D_3.out.keep k4)
  have KW_4 := Lib.hid (KW_3.out.trans k4)
  clear k4 T_3 X_3 X'_3 Y_3 Y'_3 Z_3 Z'_3 B_3 C_3 D_3 KW_3
  obtain ⟨B_c0, B_c1, B_c2, -, -, -, -⟩ := id B_4.out
  obtain ⟨C_c0, C_c1, C_c2, -, -, -, -⟩ := id C_4.out
  obtain ⟨D_c0, D_c1, D_c2, -, -, -, -⟩ := id D_4.out
  go_wp2_with fail
  go_ret
  exact ⟨rfl, KW_4.out⟩
set_option maxHeartbeats 4000000 in
theorem add_law_s {w : World} {s : Bool} {a a' : Option Addr} {n c n' c' : Nat} {lx lx' : List Nat} {t : Bool} {b b' : Option Addr} {m g m' g' : Nat} {ly ly' : List Nat} {o : Bool} {d d' : Option Addr} {i j i' j' : Nat} {lz lz' : List Nat} (hx : Rd w a n c lx) (hx' : Rd w a' n' c' lx') (hy : Rd w b m g ly) (hy' : Rd w b' m' g' ly') (hz : Rd w d i j lz) (hz' : Rd w d' i' j' lz') (hT : Tab w) (fx : (n ≤ 3 ∧ n' ≤ 3)) (fy : (m ≤ 3 ∧ m' ≤ 3)) (fz : (i ≤ 3 ∧ i' ≤ 3)) : Calls Tryd.prog 5 #[.agg #[.bool s, .slice a n c, .slice a' n' c'], .agg #[.bool t, .slice b m g, .slice b' m' g'], .agg #[.bool o, .slice d i j, .slice d' i' j']] w (BPost true w) := by
  obtain ⟨B_0, C_0, D_0, KW_0⟩ := ops3 w s a n c a' n' c' t b m g b' m' g' o d i j d' i' j'
  have T_0 := Lib.hid (hT.keep KW_0.out)
  have AW := Lib.hid (fun w1 (hT1 : Tab w1) => awake_c w1 hT1)
  have FX := Lib.hid (fun w1 (h : Rd w1 a n c lx) (h' : Rd w1 a' n' c' lx') => few_c (s := s) h h')
  rw [decide_eq_true fx] at FX
  have X_0 := Lib.hid (hx.below KW_0.out)
  have X'_0 := Lib.hid (hx'.below KW_0.out)
  have FY := Lib.hid (fun w1 (h : Rd w1 b m g ly) (h' : Rd w1 b' m' g' ly') => few_c (s := t) h h')
  rw [decide_eq_true fy] at FY
  have Y_0 := Lib.hid (hy.below KW_0.out)
  have Y'_0 := Lib.hid (hy'.below KW_0.out)
  have FZ := Lib.hid (fun w1 (h : Rd w1 d i j lz) (h' : Rd w1 d' i' j' lz') => few_c (s := o) h h')
  rw [decide_eq_true fz] at FZ
  have Z_0 := Lib.hid (hz.below KW_0.out)
  have Z'_0 := Lib.hid (hz'.below KW_0.out)
  have lX : lx.length ≤ 3 := by rw [hx.len_eq]; exact fx.1
  have lX' : lx'.length ≤ 3 := by rw [hx'.len_eq]; exact fx.2
  have nX : Ra w (.agg #[.bool s, .slice a n c, .slice a' n' c']) (rv s (nv lx) (nv lx')) 3 := ⟨_, _, _, _, _, rfl, hx.toNm rfl lX, hx'.toNm rfl lX', rfl⟩
  obtain ⟨p, hXq⟩ : ∃ q, rv s (nv lx) (nv lx') = q := ⟨_, rfl⟩
  rw [hXq] at nX
  have NX_0 := Lib.hid (nX.keep KW_0.out)
  have rbp := nX.rb (by omega)
  have lY : ly.length ≤ 3 := by rw [hy.len_eq]; exact fy.1
  have lY' : ly'.length ≤ 3 := by rw [hy'.len_eq]; exact fy.2
  have nY : Ra w (.agg #[.bool t, .slice b m g, .slice b' m' g']) (rv t (nv ly) (nv ly')) 3 := ⟨_, _, _, _, _, rfl, hy.toNm rfl lY, hy'.toNm rfl lY', rfl⟩
  obtain ⟨q, hYq⟩ : ∃ q, rv t (nv ly) (nv ly') = q := ⟨_, rfl⟩
  rw [hYq] at nY
  have NY_0 := Lib.hid (nY.keep KW_0.out)
  have rbq := nY.rb (by omega)
  have lZ : lz.length ≤ 3 := by rw [hz.len_eq]; exact fz.1
  have lZ' : lz'.length ≤ 3 := by rw [hz'.len_eq]; exact fz.2
  have nZ : Ra w (.agg #[.bool o, .slice d i j, .slice d' i' j']) (rv o (nv lz) (nv lz')) 3 := ⟨_, _, _, _, _, rfl, hz.toNm rfl lZ, hz'.toNm rfl lZ', rfl⟩
  obtain ⟨r, hZq⟩ : ∃ q, rv o (nv lz) (nv lz') = q := ⟨_, rfl⟩
  rw [hZq] at nZ
  have NZ_0 := Lib.hid (nZ.keep KW_0.out)
  have rbr := nZ.rb (by omega)
  have rb1 : Rb (p + q) 7 := (rbp.add rbq).up (by omega)
  have rb2 : Rb (q + r) 7 := (rbq.add rbr).up (by omega)
  have A1 := Lib.hid (fun w1 (hu : Ra w1 (.agg #[.bool s, .slice a n c, .slice a' n' c']) p 3) (hv : Ra w1 (.agg #[.bool t, .slice b m g, .slice b' m' g']) q 3) (hT1 : Tab w1) => qadd_c (hu) (hv) (by omega) (by omega) hT1)
  have RA := Lib.hid (fun w1 (hu : Ra w1 (.agg #[.bool s, .slice a n c, .slice a' n' c']) p 3) (hv : Ra w1 (.agg #[.bool t, .slice b m g, .slice b' m' g']) q 3) => rqadd_c (hu) (hv) (by omega) (by omega))
  have S1 := Lib.hid (fun w1 (hu : Ra w1 (.agg #[.bool s, .slice a n c, .slice a' n' c']) p 3) (hv : Ra w1 (.agg #[.bool t, .slice b m g, .slice b' m' g']) q 3) (hT1 : Tab w1) => qsub_c (hu) (hv) (by omega) (by omega) hT1)
  have RS := Lib.hid (fun w1 (hu : Ra w1 (.agg #[.bool s, .slice a n c, .slice a' n' c']) p 3) (hv : Ra w1 (.agg #[.bool t, .slice b m g, .slice b' m' g']) q 3) => rqsub_c (hu) (hv) (by omega) (by omega))
  have A2 := Lib.hid (fun w1 (hu : Ra w1 (.agg #[.bool t, .slice b m g, .slice b' m' g']) q 3) (hv : Ra w1 (.agg #[.bool s, .slice a n c, .slice a' n' c']) p 3) (hT1 : Tab w1) => qadd_c (hu) (hv) (by omega) (by omega) hT1)
  rw [Rat.add_comm q p] at A2
  have A3 := Lib.hid (fun w1 u (hu : Cr w1 u (p + q)) (hv : Ra w1 (.agg #[.bool o, .slice d i j, .slice d' i' j']) r 3) (hT1 : Tab w1) => qadd_c (hu.ra rb1) (hv.up (k := 3) (j := 7) (by omega)) (by omega) (by omega) hT1)
  have A4 := Lib.hid (fun w1 (hu : Ra w1 (.agg #[.bool t, .slice b m g, .slice b' m' g']) q 3) (hv : Ra w1 (.agg #[.bool o, .slice d i j, .slice d' i' j']) r 3) (hT1 : Tab w1) => qadd_c (hu) (hv) (by omega) (by omega) hT1)
  have A5 := Lib.hid (fun w1 (hu : Ra w1 (.agg #[.bool s, .slice a n c, .slice a' n' c']) p 3) v (hv : Cr w1 v (q + r)) (hT1 : Tab w1) => qadd_c (hu.up (k := 3) (j := 7) (by omega)) (hv.ra rb2) (by omega) (by omega) hT1)
  rw [← Rat.add_assoc] at A5
  have S2 := Lib.hid (fun w1 u (hu : Cr w1 u (p + q)) (hv : Ra w1 (.agg #[.bool t, .slice b m g, .slice b' m' g']) q 3) (hT1 : Tab w1) => qsub_c (hu.ra rb1) (hv.up (k := 3) (j := 7) (by omega)) (by omega) (by omega) hT1)
  have e1 : p + q - q = p := rat_add_sub p q
  rw [e1] at S2
  have CX := Lib.hid (fun w1 (h : Ra w1 (.agg #[.bool s, .slice a n c, .slice a' n' c']) p 3) => rcanon_c h (by omega) (by omega))
  clear hT hx hx' fx lX lX' nX hy hy' fy lY lY' nY hz hz' fz lZ lZ' nZ hXq hYq hZq rbp rbq rbr rb1 rb2 e1
  go_enter Tryd.func5, Tryd.ntmps5
  obtain ⟨B_c0, B_c1, B_c2, -, -, -, -⟩ := id B_0.out
  obtain ⟨C_c0, C_c1, C_c2, -, -, -, -⟩ := id C_0.out
  obtain ⟨D_c0, D_c1, D_c2, -, -, -, -⟩ := id D_0.out
  go_wp2_with fail
  refine Calls.mono (AW.out _ T_0.out) ?_
  rintro e w1 ⟨rfl, k1⟩
  clear B_c0 B_c1 B_c2 C_c0 C_c1 C_c2 D_c0 D_c1 D_c2
  have T_1 := Lib.hid (T_0.out.keep k1)
  have X_1 := Lib.hid (X_0.out.keep k1)
  have X'_1 := Lib.hid (X'_0.out.keep k1)
  have NX_1 := Lib.hid (NX_0.out.keep k1)
  have Y_1 := Lib.hid (Y_0.out.keep k1)
  have Y'_1 := Lib.hid (Y'_0.out.keep k1)
  have NY_1 := Lib.hid (NY_0.out.keep k1)
  have Z_1 := Lib.hid (Z_0.out.keep k1)
  have Z'_1 := Lib.hid (Z'_0.out.keep k1)
  have NZ_1 := Lib.hid (NZ_0.out.keep k1)
  have B_1 := Lib.hid (B_0.out.keep k1)
  have C_1 := Lib.hid (C_0.out.keep k1)
  have D_1 := Lib.hid (D_0.out.keep k1)
  have KW_1 := Lib.hid (KW_0.out.trans k1)
  clear k1 T_0 X_0 X'_0 NX_0 Y_0 Y'_0 NY_0 Z_0 Z'_0 NZ_0 B_0 C_0 D_0 KW_0
  obtain ⟨B_c0, B_c1, B_c2, -, -, -, -⟩ := id B_1.out
  obtain ⟨C_c0, C_c1, C_c2, -, -, -, -⟩ := id C_1.out
  obtain ⟨D_c0, D_c1, D_c2, -, -, -, -⟩ := id D_1.out
  go_wp2_with fail
  refine Calls.mono (FX.out _ X_1.out X'_1.out) ?_
  rintro e w2 ⟨rfl, k2⟩
  clear B_c0 B_c1 B_c2 C_c0 C_c1 C_c2 D_c0 D_c1 D_c2
  have T_2 := Lib.hid (T_1.out.keep k2)
  have X_2 := Lib.hid (X_1.out.keep k2)
  have X'_2 := Lib.hid (X'_1.out.keep k2)
  have NX_2 := Lib.hid (NX_1.out.keep k2)
  have Y_2 := Lib.hid (Y_1.out.keep k2)
  have Y'_2 := Lib.hid (Y'_1.out.keep k2)
  have NY_2 := Lib.hid (NY_1.out.keep k2)
  have Z_2 := Lib.hid (Z_1.out.keep k2)
  have Z'_2 := Lib.hid (Z'_1.out.keep k2)
  have NZ_2 := Lib.hid (NZ_1.out.keep k2)
  have B_2 := Lib.hid (B_1.out.keep k2)
  have C_2 := Lib.hid (C_1.out.keep k2)
  have D_2 := Lib.hid (D_1.out.keep k2)
  have KW_2 := Lib.hid (KW_1.out.trans k2)
  clear k2 T_1 X_1 X'_1 NX_1 Y_1 Y'_1 NY_1 Z_1 Z'_1 NZ_1 B_1 C_1 D_1 KW_1
  obtain ⟨B_c0, B_c1, B_c2, -, -, -, -⟩ := id B_2.out
  obtain ⟨C_c0, C_c1, C_c2, -, -, -, -⟩ := id C_2.out
  obtain ⟨D_c0, D_c1, D_c2, -, -, -, -⟩ := id D_2.out
  go_wp2_with fail
  refine Calls.mono (FY.out _ Y_2.out Y'_2.out) ?_
  rintro e w3 ⟨rfl, k3⟩
  clear B_c0 B_c1 B_c2 C_c0 C_c1 C_c2 D_c0 D_c1 D_c2
  have T_3 := Lib.hid (T_2.out.keep k3)
  have X_3 := Lib.hid (X_2.out.keep k3)
  have X'_3 := Lib.hid (X'_2.out.keep k3)
  have NX_3 := Lib.hid (NX_2.out.keep k3)
  have Y_3 := Lib.hid (Y_2.out.keep k3)
  have Y'_3 := Lib.hid (Y'_2.out.keep k3)
  have NY_3 := Lib.hid (NY_2.out.keep k3)
  have Z_3 := Lib.hid (Z_2.out.keep k3)
  have Z'_3 := Lib.hid (Z'_2.out.keep k3)
  have NZ_3 := Lib.hid (NZ_2.out.keep k3)
  have B_3 := Lib.hid (B_2.out.keep k3)
  have C_3 := Lib.hid (C_2.out.keep k3)
  have D_3 := Lib.hid (D_2.out.keep k3)
  have KW_3 := Lib.hid (KW_2.out.trans k3)
  clear k3 T_2 X_2 X'_2 NX_2 Y_2 Y'_2 NY_2 Z_2 Z'_2 NZ_2 B_2 C_2 D_2 KW_2
  obtain ⟨B_c0, B_c1, B_c2, -, -, -, -⟩ := id B_3.out
  obtain ⟨C_c0, C_c1, C_c2, -, -, -, -⟩ := id C_3.out
  obtain ⟨D_c0, D_c1, D_c2, -, -, -, -⟩ := id D_3.out
  go_wp2_with fail
  refine Calls.mono (FZ.out _ Z_3.out Z'_3.out) ?_
  rintro e w4 ⟨rfl, k4⟩
  clear B_c0 B_c1 B_c2 C_c0 C_c1 C_c2 D_c0 D_c1 D_c2
  have T_4 := Lib.hid (T_3.out.keep k4)
  have X_4 := Lib.hid (X_3.out.keep k4)
  have X'_4 := Lib.hid (X'_3.out.keep k4)
  have NX_4 := Lib.hid (NX_3.out.keep k4)
  have Y_4 := Lib.hid (Y_3.out.keep k4)
  have Y'_4 := Lib.hid (Y'_3.out.keep k4)
  have NY_4 := Lib.hid (NY_3.out.keep k4)
  have Z_4 := Lib.hid (Z_3.out.keep k4)
  have Z'_4 := Lib.hid (Z'_3.out.keep k4)
  have NZ_4 := Lib.hid (NZ_3.out.keep k4)
  have B_4 := Lib.hid (B_3.out.keep k4)
  have C_4 := Lib.hid (C_3.out.keep k4)
  have D_4 := Lib.hid (D_3.out.keep k4)
  have KW_4 := Lib.hid (KW_3.out.trans k4)
  clear k4 T_3 X_3 X'_3 NX_3 Y_3 Y'_3 NY_3 Z_3 Z'_3 NZ_3 B_3 C_3 D_3 KW_3
  clear AW FX FY FZ
  clear X_4 X'_4 Y_4 Y'_4 Z_4 Z'_4
  obtain ⟨B_c0, B_c1, B_c2, -, -, -, -⟩ := id B_4.out
  obtain ⟨C_c0, C_c1, C_c2, -, -, -, -⟩ := id C_4.out
  obtain ⟨D_c0, D_c1, D_c2, -, -, -, -⟩ := id D_4.out
  go_wp2_with fail
  refine Calls.mono (A1.out _ NX_4.out NY_4.out T_4.out) ?_
  rintro e w5 ⟨vS, rfl, hS, k5⟩
  clear B_c0 B_c1 B_c2 C_c0 C_c1 C_c2 D_c0 D_c1 D_c2
  have T_5 := Lib.hid (T_4.out.keep k5)
  have NX_5 := Lib.hid (NX_4.out.keep k5)
  have NY_5 := Lib.hid (NY_4.out.keep k5)
  have NZ_5 := Lib.hid (NZ_4.out.keep k5)
  have B_5 := Lib.hid (B_4.out.keep k5)
  have C_5 := Lib.hid (C_4.out.keep k5)
  have D_5 := Lib.hid (D_4.out.keep k5)
  have CS_5 := Lib.hid hS
  have KW_5 := Lib.hid (KW_4.out.trans k5)
  clear k5 T_4 NX_4 NY_4 NZ_4 B_4 C_4 D_4 hS KW_4
  obtain ⟨aS, nS, cS, a'S, n'S, c'S, rfl, -⟩ := Cr.form CS_5.out
  have CS_5_x := CS_5.out
  obtain ⟨bS, hbS⟩ : ∃ b, decide ((p + q).num < 0) = b := ⟨_, rfl⟩
  rw [hbS] at CS_5_x ⊢
  have CS_5_y := Lib.hid CS_5_x
  clear CS_5_x hbS CS_5
  have T_6 := Lib.hid (T_5.out.keep ((Keep.refl _).alloc (.cells #[.bool bS, .slice aS nS cS, .slice a'S n'S c'S] 25)))
  have NX_6 := Lib.hid (NX_5.out.keep ((Keep.refl _).alloc (.cells #[.bool bS, .slice aS nS cS, .slice a'S n'S c'S] 25)))
  have NY_6 := Lib.hid (NY_5.out.keep ((Keep.refl _).alloc (.cells #[.bool bS, .slice aS nS cS, .slice a'S n'S c'S] 25)))
  have NZ_6 := Lib.hid (NZ_5.out.keep ((Keep.refl _).alloc (.cells #[.bool bS, .slice aS nS cS, .slice a'S n'S c'S] 25)))
  have B_6 := Lib.hid (B_5.out.keep ((Keep.refl _).alloc (.cells #[.bool bS, .slice aS nS cS, .slice a'S n'S c'S] 25)))
  have C_6 := Lib.hid (C_5.out.keep ((Keep.refl _).alloc (.cells #[.bool bS, .slice aS nS cS, .slice a'S n'S c'S] 25)))
  have D_6 := Lib.hid (D_5.out.keep ((Keep.refl _).alloc (.cells #[.bool bS, .slice aS nS cS, .slice a'S n'S c'S] 25)))
  have CS_6 := Lib.hid (CS_5_y.out.keep ((Keep.refl _).alloc (.cells #[.bool bS, .slice aS nS cS, .slice a'S n'S c'S] 25)))
  have KW_6 := Lib.hid (KW_5.out.trans ((Keep.refl _).alloc (.cells #[.bool bS, .slice aS nS cS, .slice a'S n'S c'S] 25)))
  clear T_5 NX_5 NY_5 NZ_5 B_5 C_5 D_5 CS_5_y KW_5
  have S_6 := Lib.hid (QBox.new w5 bS aS nS cS a'S n'S c'S)
  clear A1
  have T_7 := Lib.hid (T_6.out.keep (keep_drew _))
  clear T_6
  have NX_7 := Lib.hid (NX_6.out.keep (keep_drew _))
  clear NX_6
  have NY_7 := Lib.hid (NY_6.out.keep (keep_drew _))
  clear NY_6
  have NZ_7 := Lib.hid (NZ_6.out.keep (keep_drew _))
  clear NZ_6
  have B_7 := Lib.hid (B_6.out.keep (keep_drew _))
  clear B_6
  have C_7 := Lib.hid (C_6.out.keep (keep_drew _))
  clear C_6
  have D_7 := Lib.hid (D_6.out.keep (keep_drew _))
  clear D_6
  have CS_7 := Lib.hid (CS_6.out.keep (keep_drew _))
  clear CS_6
  have S_7 := Lib.hid (S_6.out.keep (keep_drew _))
  clear S_6
  have KW_7 := Lib.hid (KW_6.out.trans (keep_drew _))
  clear KW_6
  obtain ⟨cS_7_0, cS_7_1, cS_7_2, -, -, -, -⟩ := id S_7.out
  obtain ⟨cB_7_0, cB_7_1, cB_7_2, -, -, -, -⟩ := id B_7.out
  obtain ⟨cC_7_0, cC_7_1, cC_7_2, -, -, -, -⟩ := id C_7.out
  go_wp2
  go_region_held3 (fun w' => w'.cell? ⟨w5.heap.size, 0, none⟩ = some (.bool bS) ∧ w'.cell? ⟨w5.heap.size, 1, none⟩ = some (.slice aS nS cS) ∧ w'.cell? ⟨w5.heap.size, 2, none⟩ = some (.slice a'S n'S c'S) ∧ w'.cell? ⟨w.heap.size, 0, none⟩ = some (.bool s) ∧ w'.cell? ⟨w.heap.size, 1, none⟩ = some (.slice a n c) ∧ w'.cell? ⟨w.heap.size, 2, none⟩ = some (.slice a' n' c') ∧ w'.cell? ⟨w.heap.size + 1, 0, none⟩ = some (.bool t) ∧ w'.cell? ⟨w.heap.size + 1, 1, none⟩ = some (.slice b m g) ∧ w'.cell? ⟨w.heap.size + 1, 2, none⟩ = some (.slice b' m' g')) (first | exact ⟨cS_14_0, cS_14_1, cS_14_2, cB_14_0, cB_14_1, cB_14_2, cC_14_0, cC_14_1, cC_14_2⟩ | exact ⟨cS_13_0, cS_13_1, cS_13_2, cB_13_0, cB_13_1, cB_13_2, cC_13_0, cC_13_1, cC_13_2⟩ | exact ⟨cS_12_0, cS_12_1, cS_12_2, cB_12_0, cB_12_1, cB_12_2, cC_12_0, cC_12_1, cC_12_2⟩ | exact ⟨cS_11_0, cS_11_1, cS_11_2, cB_11_0, cB_11_1, cB_11_2, cC_11_0, cC_11_1, cC_11_2⟩ | exact ⟨cS_10_0, cS_10_1, cS_10_2, cB_10_0, cB_10_1, cB_10_2, cC_10_0, cC_10_1, cC_10_2⟩ | exact ⟨cS_9_0, cS_9_1, cS_9_2, cB_9_0, cB_9_1, cB_9_2, cC_9_0, cC_9_1, cC_9_2⟩ | exact ⟨cS_8_0, cS_8_1, cS_8_2, cB_8_0, cB_8_1, cB_8_2, cC_8_0, cC_8_1, cC_8_2⟩ | exact ⟨cS_7_0, cS_7_1, cS_7_2, cB_7_0, cB_7_1, cB_7_2, cC_7_0, cC_7_1, cC_7_2⟩ | go_keep)
    (first
      | (go_at_call 14; ((with_reducible refine Calls.mono (qsame_t CS_13.out G_13.out) ?_); rintro e w14 ⟨rfl, k14⟩; have T_14 := Lib.hid (T_13.out.keep k14); have NX_14 := Lib.hid (NX_13.out.keep k14); have NY_14 := Lib.hid (NY_13.out.keep k14); have NZ_14 := Lib.hid (NZ_13.out.keep k14); have B_14 := Lib.hid (B_13.out.keep k14); have C_14 := Lib.hid (C_13.out.keep k14); have D_14 := Lib.hid (D_13.out.keep k14); have CS_14 := Lib.hid (CS_13.out.keep k14); have S_14 := Lib.hid (S_13.out.keep k14); have A_14 := Lib.hid (A_13.out.keep k14); have E_14 := Lib.hid (E_13.out.keep k14); have F_14 := Lib.hid (F_13.out.keep k14); have G_14 := Lib.hid (G_13.out.keep k14); have KW_14 := Lib.hid (KW_13.out.trans k14); obtain ⟨cS_14_0, cS_14_1, cS_14_2, -, -, -, -⟩ := id S_14.out; obtain ⟨cB_14_0, cB_14_1, cB_14_2, -, -, -, -⟩ := id B_14.out; obtain ⟨cC_14_0, cC_14_1, cC_14_2, -, -, -, -⟩ := id C_14.out; clear k14))
      | (go_at_call 32; ((with_reducible refine Calls.mono (A2.out _ NY_12.out NX_12.out T_12.out) ?_); rintro e w13 ⟨x4, rfl, hD, k13⟩; have T_13 := Lib.hid (T_12.out.keep k13); have NX_13 := Lib.hid (NX_12.out.keep k13); have NY_13 := Lib.hid (NY_12.out.keep k13); have NZ_13 := Lib.hid (NZ_12.out.keep k13); have B_13 := Lib.hid (B_12.out.keep k13); have C_13 := Lib.hid (C_12.out.keep k13); have D_13 := Lib.hid (D_12.out.keep k13); have CS_13 := Lib.hid (CS_12.out.keep k13); have S_13 := Lib.hid (S_12.out.keep k13); have A_13 := Lib.hid (A_12.out.keep k13); have E_13 := Lib.hid (E_12.out.keep k13); have F_13 := Lib.hid (F_12.out.keep k13); have G_13 := Lib.hid hD; clear hD; have KW_13 := Lib.hid (KW_12.out.trans k13); obtain ⟨cS_13_0, cS_13_1, cS_13_2, -, -, -, -⟩ := id S_13.out; obtain ⟨cB_13_0, cB_13_1, cB_13_2, -, -, -, -⟩ := id B_13.out; obtain ⟨cC_13_0, cC_13_1, cC_13_2, -, -, -, -⟩ := id C_13.out; clear k13))
      | (go_at_call 14; ((with_reducible refine Calls.mono (qsame_t E_11.out F_11.out) ?_); rintro e w12 ⟨rfl, k12⟩; have T_12 := Lib.hid (T_11.out.keep k12); have NX_12 := Lib.hid (NX_11.out.keep k12); have NY_12 := Lib.hid (NY_11.out.keep k12); have NZ_12 := Lib.hid (NZ_11.out.keep k12); have B_12 := Lib.hid (B_11.out.keep k12); have C_12 := Lib.hid (C_11.out.keep k12); have D_12 := Lib.hid (D_11.out.keep k12); have CS_12 := Lib.hid (CS_11.out.keep k12); have S_12 := Lib.hid (S_11.out.keep k12); have A_12 := Lib.hid (A_11.out.keep k12); have E_12 := Lib.hid (E_11.out.keep k12); have F_12 := Lib.hid (F_11.out.keep k12); have KW_12 := Lib.hid (KW_11.out.trans k12); obtain ⟨cS_12_0, cS_12_1, cS_12_2, -, -, -, -⟩ := id S_12.out; obtain ⟨cB_12_0, cB_12_1, cB_12_2, -, -, -, -⟩ := id B_12.out; obtain ⟨cC_12_0, cC_12_1, cC_12_2, -, -, -, -⟩ := id C_12.out; clear k12))
      | (go_at_call 35; ((with_reducible refine Calls.mono (RS.out _ NX_10.out NY_10.out) ?_); rintro e w11 ⟨x3, rfl, hC, k11⟩; have T_11 := Lib.hid (T_10.out.keep k11); have NX_11 := Lib.hid (NX_10.out.keep k11); have NY_11 := Lib.hid (NY_10.out.keep k11); have NZ_11 := Lib.hid (NZ_10.out.keep k11); have B_11 := Lib.hid (B_10.out.keep k11); have C_11 := Lib.hid (C_10.out.keep k11); have D_11 := Lib.hid (D_10.out.keep k11); have CS_11 := Lib.hid (CS_10.out.keep k11); have S_11 := Lib.hid (S_10.out.keep k11); have A_11 := Lib.hid (A_10.out.keep k11); have E_11 := Lib.hid (E_10.out.keep k11); have F_11 := Lib.hid hC; clear hC; have KW_11 := Lib.hid (KW_10.out.trans k11); obtain ⟨cS_11_0, cS_11_1, cS_11_2, -, -, -, -⟩ := id S_11.out; obtain ⟨cB_11_0, cB_11_1, cB_11_2, -, -, -, -⟩ := id B_11.out; obtain ⟨cC_11_0, cC_11_1, cC_11_2, -, -, -, -⟩ := id C_11.out; clear k11))
      | (go_at_call 34; ((with_reducible refine Calls.mono (S1.out _ NX_9.out NY_9.out T_9.out) ?_); rintro e w10 ⟨x2, rfl, hB, k10⟩; have T_10 := Lib.hid (T_9.out.keep k10); have NX_10 := Lib.hid (NX_9.out.keep k10); have NY_10 := Lib.hid (NY_9.out.keep k10); have NZ_10 := Lib.hid (NZ_9.out.keep k10); have B_10 := Lib.hid (B_9.out.keep k10); have C_10 := Lib.hid (C_9.out.keep k10); have D_10 := Lib.hid (D_9.out.keep k10); have CS_10 := Lib.hid (CS_9.out.keep k10); have S_10 := Lib.hid (S_9.out.keep k10); have A_10 := Lib.hid (A_9.out.keep k10); have E_10 := Lib.hid hB; clear hB; have KW_10 := Lib.hid (KW_9.out.trans k10); obtain ⟨cS_10_0, cS_10_1, cS_10_2, -, -, -, -⟩ := id S_10.out; obtain ⟨cB_10_0, cB_10_1, cB_10_2, -, -, -, -⟩ := id B_10.out; obtain ⟨cC_10_0, cC_10_1, cC_10_2, -, -, -, -⟩ := id C_10.out; clear k10))
      | (go_at_call 14; ((with_reducible refine Calls.mono (qsame_t CS_8.out A_8.out) ?_); rintro e w9 ⟨rfl, k9⟩; have T_9 := Lib.hid (T_8.out.keep k9); have NX_9 := Lib.hid (NX_8.out.keep k9); have NY_9 := Lib.hid (NY_8.out.keep k9); have NZ_9 := Lib.hid (NZ_8.out.keep k9); have B_9 := Lib.hid (B_8.out.keep k9); have C_9 := Lib.hid (C_8.out.keep k9); have D_9 := Lib.hid (D_8.out.keep k9); have CS_9 := Lib.hid (CS_8.out.keep k9); have S_9 := Lib.hid (S_8.out.keep k9); have A_9 := Lib.hid (A_8.out.keep k9); have KW_9 := Lib.hid (KW_8.out.trans k9); obtain ⟨cS_9_0, cS_9_1, cS_9_2, -, -, -, -⟩ := id S_9.out; obtain ⟨cB_9_0, cB_9_1, cB_9_2, -, -, -, -⟩ := id B_9.out; obtain ⟨cC_9_0, cC_9_1, cC_9_2, -, -, -, -⟩ := id C_9.out; clear k9))
      | (go_at_call 33; ((with_reducible refine Calls.mono (RA.out _ NX_7.out NY_7.out) ?_); rintro e w8 ⟨x1, rfl, hA, k8⟩; have T_8 := Lib.hid (T_7.out.keep k8); have NX_8 := Lib.hid (NX_7.out.keep k8); have NY_8 := Lib.hid (NY_7.out.keep k8); have NZ_8 := Lib.hid (NZ_7.out.keep k8); have B_8 := Lib.hid (B_7.out.keep k8); have C_8 := Lib.hid (C_7.out.keep k8); have D_8 := Lib.hid (D_7.out.keep k8); have CS_8 := Lib.hid (CS_7.out.keep k8); have S_8 := Lib.hid (S_7.out.keep k8); have A_8 := Lib.hid hA; clear hA; have KW_8 := Lib.hid (KW_7.out.trans k8); obtain ⟨cS_8_0, cS_8_1, cS_8_2, -, -, -, -⟩ := id S_8.out; obtain ⟨cB_8_0, cB_8_1, cB_8_2, -, -, -, -⟩ := id B_8.out; obtain ⟨cC_8_0, cC_8_1, cC_8_2, -, -, -, -⟩ := id C_8.out; clear k8)))
  clear cS_14_0 cS_14_1 cS_14_2 cB_14_0 cB_14_1 cB_14_2 cC_14_0 cC_14_1 cC_14_2 cS_13_0 cS_13_1 cS_13_2 cB_13_0 cB_13_1 cB_13_2 cC_13_0 cC_13_1 cC_13_2 cS_12_0 cS_12_1 cS_12_2 cB_12_0 cB_12_1 cB_12_2 cC_12_0 cC_12_1 cC_12_2 cS_11_0 cS_11_1 cS_11_2 cB_11_0 cB_11_1 cB_11_2 cC_11_0 cC_11_1 cC_11_2 cS_10_0 cS_10_1 cS_10_2 cB_10_0 cB_10_1 cB_10_2 cC_10_0 cC_10_1 cC_10_2 cS_9_0 cS_9_1 cS_9_2 cB_9_0 cB_9_1 cB_9_2 cC_9_0 cC_9_1 cC_9_2 cS_8_0 cS_8_1 cS_8_2 cB_8_0 cB_8_1 cB_8_2 cC_8_0 cC_8_1 cC_8_2 cS_7_0 cS_7_1 cS_7_2 cB_7_0 cB_7_1 cB_7_2 cC_7_0 cC_7_1 cC_7_2
  clear RA S1 RS A2
  clear A_14 E_14 F_14 G_14
  have T_15 := Lib.hid (T_14.out.keep (keep_drew _))
  clear T_14
  have NX_15 := Lib.hid (NX_14.out.keep (keep_drew _))
  clear NX_14
  have NY_15 := Lib.hid (NY_14.out.keep (keep_drew _))
  clear NY_14
  have NZ_15 := Lib.hid (NZ_14.out.keep (keep_drew _))
  clear NZ_14
  have B_15 := Lib.hid (B_14.out.keep (keep_drew _))
  clear B_14
  have C_15 := Lib.hid (C_14.out.keep (keep_drew _))
  clear C_14
  have D_15 := Lib.hid (D_14.out.keep (keep_drew _))
  clear D_14
  have CS_15 := Lib.hid (CS_14.out.keep (keep_drew _))
  clear CS_14
  have S_15 := Lib.hid (S_14.out.keep (keep_drew _))
  clear S_14
  have KW_15 := Lib.hid (KW_14.out.trans (keep_drew _))
  clear KW_14
  obtain ⟨cS_15_0, cS_15_1, cS_15_2, -, -, -, -⟩ := id S_15.out
  obtain ⟨cB_15_0, cB_15_1, cB_15_2, -, -, -, -⟩ := id B_15.out
  obtain ⟨cC_15_0, cC_15_1, cC_15_2, -, -, -, -⟩ := id C_15.out
  obtain ⟨cD_15_0, cD_15_1, cD_15_2, -, -, -, -⟩ := id D_15.out
  go_wp2
  go_region_held3 (fun w' => w'.cell? ⟨w5.heap.size, 0, none⟩ = some (.bool bS) ∧ w'.cell? ⟨w5.heap.size, 1, none⟩ = some (.slice aS nS cS) ∧ w'.cell? ⟨w5.heap.size, 2, none⟩ = some (.slice a'S n'S c'S) ∧ w'.cell? ⟨w.heap.size, 0, none⟩ = some (.bool s) ∧ w'.cell? ⟨w.heap.size, 1, none⟩ = some (.slice a n c) ∧ w'.cell? ⟨w.heap.size, 2, none⟩ = some (.slice a' n' c') ∧ w'.cell? ⟨w.heap.size + 1, 0, none⟩ = some (.bool t) ∧ w'.cell? ⟨w.heap.size + 1, 1, none⟩ = some (.slice b m g) ∧ w'.cell? ⟨w.heap.size + 1, 2, none⟩ = some (.slice b' m' g') ∧ w'.cell? ⟨w.heap.size + 1 + 1, 0, none⟩ = some (.bool o) ∧ w'.cell? ⟨w.heap.size + 1 + 1, 1, none⟩ = some (.slice d i j) ∧ w'.cell? ⟨w.heap.size + 1 + 1, 2, none⟩ = some (.slice d' i' j')) (first | exact ⟨cS_22_0, cS_22_1, cS_22_2, cB_22_0, cB_22_1, cB_22_2, cC_22_0, cC_22_1, cC_22_2, cD_22_0, cD_22_1, cD_22_2⟩ | exact ⟨cS_21_0, cS_21_1, cS_21_2, cB_21_0, cB_21_1, cB_21_2, cC_21_0, cC_21_1, cC_21_2, cD_21_0, cD_21_1, cD_21_2⟩ | exact ⟨cS_20_0, cS_20_1, cS_20_2, cB_20_0, cB_20_1, cB_20_2, cC_20_0, cC_20_1, cC_20_2, cD_20_0, cD_20_1, cD_20_2⟩ | exact ⟨cS_19_0, cS_19_1, cS_19_2, cB_19_0, cB_19_1, cB_19_2, cC_19_0, cC_19_1, cC_19_2, cD_19_0, cD_19_1, cD_19_2⟩ | exact ⟨cS_18_0, cS_18_1, cS_18_2, cB_18_0, cB_18_1, cB_18_2, cC_18_0, cC_18_1, cC_18_2, cD_18_0, cD_18_1, cD_18_2⟩ | exact ⟨cS_17_0, cS_17_1, cS_17_2, cB_17_0, cB_17_1, cB_17_2, cC_17_0, cC_17_1, cC_17_2, cD_17_0, cD_17_1, cD_17_2⟩ | exact ⟨cS_16_0, cS_16_1, cS_16_2, cB_16_0, cB_16_1, cB_16_2, cC_16_0, cC_16_1, cC_16_2, cD_16_0, cD_16_1, cD_16_2⟩ | exact ⟨cS_15_0, cS_15_1, cS_15_2, cB_15_0, cB_15_1, cB_15_2, cC_15_0, cC_15_1, cC_15_2, cD_15_0, cD_15_1, cD_15_2⟩ | go_keep)
    (first
      | (go_at_call 14; ((with_reducible refine Calls.mono (qsame_t G_21.out H_21.out) ?_); rintro e w22 ⟨rfl, k22⟩; have T_22 := Lib.hid (T_21.out.keep k22); have NX_22 := Lib.hid (NX_21.out.keep k22); have NY_22 := Lib.hid (NY_21.out.keep k22); have NZ_22 := Lib.hid (NZ_21.out.keep k22); have B_22 := Lib.hid (B_21.out.keep k22); have C_22 := Lib.hid (C_21.out.keep k22); have D_22 := Lib.hid (D_21.out.keep k22); have CS_22 := Lib.hid (CS_21.out.keep k22); have S_22 := Lib.hid (S_21.out.keep k22); have A_22 := Lib.hid (A_21.out.keep k22); have E_22 := Lib.hid (E_21.out.keep k22); have F_22 := Lib.hid (F_21.out.keep k22); have G_22 := Lib.hid (G_21.out.keep k22); have H_22 := Lib.hid (H_21.out.keep k22); have KW_22 := Lib.hid (KW_21.out.trans k22); obtain ⟨cS_22_0, cS_22_1, cS_22_2, -, -, -, -⟩ := id S_22.out; obtain ⟨cB_22_0, cB_22_1, cB_22_2, -, -, -, -⟩ := id B_22.out; obtain ⟨cC_22_0, cC_22_1, cC_22_2, -, -, -, -⟩ := id C_22.out; obtain ⟨cD_22_0, cD_22_1, cD_22_2, -, -, -, -⟩ := id D_22.out; clear k22))
      | (go_at_call 15; ((with_reducible refine Calls.mono (CX.out _ NX_20.out) ?_); rintro e w21 ⟨x9, rfl, hE, k21⟩; have T_21 := Lib.hid (T_20.out.keep k21); have NX_21 := Lib.hid (NX_20.out.keep k21); have NY_21 := Lib.hid (NY_20.out.keep k21); have NZ_21 := Lib.hid (NZ_20.out.keep k21); have B_21 := Lib.hid (B_20.out.keep k21); have C_21 := Lib.hid (C_20.out.keep k21); have D_21 := Lib.hid (D_20.out.keep k21); have CS_21 := Lib.hid (CS_20.out.keep k21); have S_21 := Lib.hid (S_20.out.keep k21); have A_21 := Lib.hid (A_20.out.keep k21); have E_21 := Lib.hid (E_20.out.keep k21); have F_21 := Lib.hid (F_20.out.keep k21); have G_21 := Lib.hid (G_20.out.keep k21); have H_21 := Lib.hid hE; clear hE; have KW_21 := Lib.hid (KW_20.out.trans k21); obtain ⟨cS_21_0, cS_21_1, cS_21_2, -, -, -, -⟩ := id S_21.out; obtain ⟨cB_21_0, cB_21_1, cB_21_2, -, -, -, -⟩ := id B_21.out; obtain ⟨cC_21_0, cC_21_1, cC_21_2, -, -, -, -⟩ := id C_21.out; obtain ⟨cD_21_0, cD_21_1, cD_21_2, -, -, -, -⟩ := id D_21.out; clear k21))
      | (go_at_call 34; ((with_reducible refine Calls.mono (S2.out _ _ CS_19.out NY_19.out T_19.out) ?_); rintro e w20 ⟨x8, rfl, hD, k20⟩; have T_20 := Lib.hid (T_19.out.keep k20); have NX_20 := Lib.hid (NX_19.out.keep k20); have NY_20 := Lib.hid (NY_19.out.keep k20); have NZ_20 := Lib.hid (NZ_19.out.keep k20); have B_20 := Lib.hid (B_19.out.keep k20); have C_20 := Lib.hid (C_19.out.keep k20); have D_20 := Lib.hid (D_19.out.keep k20); have CS_20 := Lib.hid (CS_19.out.keep k20); have S_20 := Lib.hid (S_19.out.keep k20); have A_20 := Lib.hid (A_19.out.keep k20); have E_20 := Lib.hid (E_19.out.keep k20); have F_20 := Lib.hid (F_19.out.keep k20); have G_20 := Lib.hid hD; clear hD; have KW_20 := Lib.hid (KW_19.out.trans k20); obtain ⟨cS_20_0, cS_20_1, cS_20_2, -, -, -, -⟩ := id S_20.out; obtain ⟨cB_20_0, cB_20_1, cB_20_2, -, -, -, -⟩ := id B_20.out; obtain ⟨cC_20_0, cC_20_1, cC_20_2, -, -, -, -⟩ := id C_20.out; obtain ⟨cD_20_0, cD_20_1, cD_20_2, -, -, -, -⟩ := id D_20.out; clear k20))
      | (go_at_call 14; ((with_reducible refine Calls.mono (qsame_t A_18.out F_18.out) ?_); rintro e w19 ⟨rfl, k19⟩; have T_19 := Lib.hid (T_18.out.keep k19); have NX_19 := Lib.hid (NX_18.out.keep k19); have NY_19 := Lib.hid (NY_18.out.keep k19); have NZ_19 := Lib.hid (NZ_18.out.keep k19); have B_19 := Lib.hid (B_18.out.keep k19); have C_19 := Lib.hid (C_18.out.keep k19); have D_19 := Lib.hid (D_18.out.keep k19); have CS_19 := Lib.hid (CS_18.out.keep k19); have S_19 := Lib.hid (S_18.out.keep k19); have A_19 := Lib.hid (A_18.out.keep k19); have E_19 := Lib.hid (E_18.out.keep k19); have F_19 := Lib.hid (F_18.out.keep k19); have KW_19 := Lib.hid (KW_18.out.trans k19); obtain ⟨cS_19_0, cS_19_1, cS_19_2, -, -, -, -⟩ := id S_19.out; obtain ⟨cB_19_0, cB_19_1, cB_19_2, -, -, -, -⟩ := id B_19.out; obtain ⟨cC_19_0, cC_19_1, cC_19_2, -, -, -, -⟩ := id C_19.out; obtain ⟨cD_19_0, cD_19_1, cD_19_2, -, -, -, -⟩ := id D_19.out; clear k19))
      | (go_at_call 32; ((with_reducible refine Calls.mono (A5.out _ NX_17.out _ E_17.out T_17.out) ?_); rintro e w18 ⟨x7, rfl, hC, k18⟩; have T_18 := Lib.hid (T_17.out.keep k18); have NX_18 := Lib.hid (NX_17.out.keep k18); have NY_18 := Lib.hid (NY_17.out.keep k18); have NZ_18 := Lib.hid (NZ_17.out.keep k18); have B_18 := Lib.hid (B_17.out.keep k18); have C_18 := Lib.hid (C_17.out.keep k18); have D_18 := Lib.hid (D_17.out.keep k18); have CS_18 := Lib.hid (CS_17.out.keep k18); have S_18 := Lib.hid (S_17.out.keep k18); have A_18 := Lib.hid (A_17.out.keep k18); have E_18 := Lib.hid (E_17.out.keep k18); have F_18 := Lib.hid hC; clear hC; have KW_18 := Lib.hid (KW_17.out.trans k18); obtain ⟨cS_18_0, cS_18_1, cS_18_2, -, -, -, -⟩ := id S_18.out; obtain ⟨cB_18_0, cB_18_1, cB_18_2, -, -, -, -⟩ := id B_18.out; obtain ⟨cC_18_0, cC_18_1, cC_18_2, -, -, -, -⟩ := id C_18.out; obtain ⟨cD_18_0, cD_18_1, cD_18_2, -, -, -, -⟩ := id D_18.out; clear k18))
      | (go_at_call 32; ((with_reducible refine Calls.mono (A4.out _ NY_16.out NZ_16.out T_16.out) ?_); rintro e w17 ⟨x6, rfl, hB, k17⟩; have T_17 := Lib.hid (T_16.out.keep k17); have NX_17 := Lib.hid (NX_16.out.keep k17); have NY_17 := Lib.hid (NY_16.out.keep k17); have NZ_17 := Lib.hid (NZ_16.out.keep k17); have B_17 := Lib.hid (B_16.out.keep k17); have C_17 := Lib.hid (C_16.out.keep k17); have D_17 := Lib.hid (D_16.out.keep k17); have CS_17 := Lib.hid (CS_16.out.keep k17); have S_17 := Lib.hid (S_16.out.keep k17); have A_17 := Lib.hid (A_16.out.keep k17); have E_17 := Lib.hid hB; clear hB; have KW_17 := Lib.hid (KW_16.out.trans k17); obtain ⟨cS_17_0, cS_17_1, cS_17_2, -, -, -, -⟩ := id S_17.out; obtain ⟨cB_17_0, cB_17_1, cB_17_2, -, -, -, -⟩ := id B_17.out; obtain ⟨cC_17_0, cC_17_1, cC_17_2, -, -, -, -⟩ := id C_17.out; obtain ⟨cD_17_0, cD_17_1, cD_17_2, -, -, -, -⟩ := id D_17.out; clear k17))
      | (go_at_call 32; ((with_reducible refine Calls.mono (A3.out _ _ CS_15.out NZ_15.out T_15.out) ?_); rintro e w16 ⟨x5, rfl, hA, k16⟩; have T_16 := Lib.hid (T_15.out.keep k16); have NX_16 := Lib.hid (NX_15.out.keep k16); have NY_16 := Lib.hid (NY_15.out.keep k16); have NZ_16 := Lib.hid (NZ_15.out.keep k16); have B_16 := Lib.hid (B_15.out.keep k16); have C_16 := Lib.hid (C_15.out.keep k16); have D_16 := Lib.hid (D_15.out.keep k16); have CS_16 := Lib.hid (CS_15.out.keep k16); have S_16 := Lib.hid (S_15.out.keep k16); have A_16 := Lib.hid hA; clear hA; have KW_16 := Lib.hid (KW_15.out.trans k16); obtain ⟨cS_16_0, cS_16_1, cS_16_2, -, -, -, -⟩ := id S_16.out; obtain ⟨cB_16_0, cB_16_1, cB_16_2, -, -, -, -⟩ := id B_16.out; obtain ⟨cC_16_0, cC_16_1, cC_16_2, -, -, -, -⟩ := id C_16.out; obtain ⟨cD_16_0, cD_16_1, cD_16_2, -, -, -, -⟩ := id D_16.out; clear k16)))
  clear cS_22_0 cS_22_1 cS_22_2 cB_22_0 cB_22_1 cB_22_2 cC_22_0 cC_22_1 cC_22_2 cD_22_0 cD_22_1 cD_22_2 cS_21_0 cS_21_1 cS_21_2 cB_21_0 cB_21_1 cB_21_2 cC_21_0 cC_21_1 cC_21_2 cD_21_0 cD_21_1 cD_21_2 cS_20_0 cS_20_1 cS_20_2 cB_20_0 cB_20_1 cB_20_2 cC_20_0 cC_20_1 cC_20_2 cD_20_0 cD_20_1 cD_20_2 cS_19_0 cS_19_1 cS_19_2 cB_19_0 cB_19_1 cB_19_2 cC_19_0 cC_19_1 cC_19_2 cD_19_0 cD_19_1 cD_19_2 cS_18_0 cS_18_1 cS_18_2 cB_18_0 cB_18_1 cB_18_2 cC_18_0 cC_18_1 cC_18_2 cD_18_0 cD_18_1 cD_18_2 cS_17_0 cS_17_1 cS_17_2 cB_17_0 cB_17_1 cB_17_2 cC_17_0 cC_17_1 cC_17_2 cD_17_0 cD_17_1 cD_17_2 cS_16_0 cS_16_1 cS_16_2 cB_16_0 cB_16_1 cB_16_2 cC_16_0 cC_16_1 cC_16_2 cD_16_0 cD_16_1 cD_16_2 cS_15_0 cS_15_1 cS_15_2 cB_15_0 cB_15_1 cB_15_2 cC_15_0 cC_15_1 cC_15_2 cD_15_0 cD_15_1 cD_15_2
  all_goals
    go_wp2_with fail
    go_ret
    exact ⟨rfl, KW_22.out⟩
theorem add_law_c {w : World} {s : Bool} {a a' : Option Addr} {n c n' c' : Nat} {lx lx' : List Nat} {t : Bool} {b b' : Option Addr} {m g m' g' : Nat} {ly ly' : List Nat} {o : Bool} {d d' : Option Addr} {i j i' j' : Nat} {lz lz' : List Nat} (hx : Rd w a n c lx) (hx' : Rd w a' n' c' lx') (hy : Rd w b m g ly) (hy' : Rd w b' m' g' ly') (hz : Rd w d i j lz) (hz' : Rd w d' i' j' lz') (hT : Tab w) : Calls Tryd.prog 5 #[.agg #[.bool s, .slice a n c, .slice a' n' c'], .agg #[.bool t, .slice b m g, .slice b' m' g'], .agg #[.bool o, .slice d i j, .slice d' i' j']] w (BPost true w) := by
  by_cases fx : (n ≤ 3 ∧ n' ≤ 3)
  · skip
    by_cases fy : (m ≤ 3 ∧ m' ≤ 3)
    · skip
      by_cases fz : (i ≤ 3 ∧ i' ≤ 3)
      · exact add_law_s hx hx' hy hy' hz hz' hT fx fy fz
      · exact add_law_b2 hx hx' hy hy' hz hz' hT fx fy fz
    · exact add_law_b1 hx hx' hy hy' hz hz' hT fx fy
  · exact add_law_b0 hx hx' hy hy' hz hz' hT fx
end Go.Proofs.YtjkfnnoakjdgmaaDoor
