/- Walks of layer 3: the law of the simplest number between two. -/
import Derived.Test.YtjkfnnoakjdgmaaDoorRL2
namespace Go.Proofs.YtjkfnnoakjdgmaaDoor
open Go.RowKit
set_option linter.unusedVariables false
theorem ops2 (w : World) (s : Bool) (a : Option Addr) (n c : Nat) (a' : Option Addr) (n' c' : Nat) (t : Bool) (b : Option Addr) (m g : Nat) (b' : Option Addr) (m' g' : Nat) : Hid (QBox (w.heap.size) (.bool s) (.slice a n c) (.slice a' n' c') ((w.alloc (.cells #[.bool s, .slice a n c, .slice a' n' c'] 25)).alloc (.cells #[.bool t, .slice b m g, .slice b' m' g'] 25))) ∧ Hid (QBox (w.heap.size + 1) (.bool t) (.slice b m g) (.slice b' m' g') ((w.alloc (.cells #[.bool s, .slice a n c, .slice a' n' c'] 25)).alloc (.cells #[.bool t, .slice b m g, .slice b' m' g'] 25))) ∧ Hid (Keep w ((w.alloc (.cells #[.bool s, .slice a n c, .slice a' n' c'] 25)).alloc (.cells #[.bool t, .slice b m g, .slice b' m' g'] 25))) :=
  ⟨Lib.hid ((QBox.new w s a n c a' n' c').keep ((Keep.refl _).alloc _)), Lib.hid ((QBox.new (w.alloc _) t b m g b' m' g').at (sz1 _ _)), Lib.hid (((Keep.refl w).alloc _).alloc _)⟩
set_option maxHeartbeats 4000000 in
theorem simp_law_b0 {w : World} {s : Bool} {a a' : Option Addr} {n c n' c' : Nat} {lx lx' : List Nat} {t : Bool} {b b' : Option Addr} {m g m' g' : Nat} {ly ly' : List Nat} (hx : Rd w a n c lx) (hx' : Rd w a' n' c' lx') (hy : Rd w b m g ly) (hy' : Rd w b' m' g' ly') (hT : Tab w) (x : Int) (hk0 : 0 ≤ x) (hk1 : x < 65536)  (fx : ¬ (n ≤ 3 ∧ n' ≤ 3)) : Calls Tryd.prog 9 #[.agg #[.bool s, .slice a n c, .slice a' n' c'], .agg #[.bool t, .slice b m g, .slice b' m' g'], .int .u16 x] w (BPost true w) := by
  obtain ⟨B_0, C_0, KW_0⟩ := ops2 w s a n c a' n' c' t b m g b' m' g'
  have T_0 := Lib.hid (hT.keep KW_0.out)
  have AW := Lib.hid (fun w1 (hT1 : Tab w1) => awake_c w1 hT1)
  have FX := Lib.hid (fun w1 (h : Rd w1 a n c lx) (h' : Rd w1 a' n' c' lx') => few_c (s := s) h h')
  rw [decide_eq_false fx] at FX
  have X_0 := Lib.hid (hx.below KW_0.out)
  have X'_0 := Lib.hid (hx'.below KW_0.out)
  clear hT hx hx' hy hy'
  go_enter Tryd.func9, Tryd.ntmps9
  obtain ⟨B_c0, B_c1, B_c2, -, -, -, -⟩ := id B_0.out
  obtain ⟨C_c0, C_c1, C_c2, -, -, -, -⟩ := id C_0.out
  go_wp2_with fail
  refine Calls.mono (AW.out _ T_0.out) ?_
  rintro e w1 ⟨rfl, k1⟩
  clear B_c0 B_c1 B_c2 C_c0 C_c1 C_c2
  have T_1 := Lib.hid (T_0.out.keep k1)
  have X_1 := Lib.hid (X_0.out.keep k1)
  have X'_1 := Lib.hid (X'_0.out.keep k1)
  have B_1 := Lib.hid (B_0.out.keep k1)
  have C_1 := Lib.hid (C_0.out.keep k1)
  have KW_1 := Lib.hid (KW_0.out.trans k1)
  clear k1 T_0 X_0 X'_0 B_0 C_0 KW_0
  obtain ⟨B_c0, B_c1, B_c2, -, -, -, -⟩ := id B_1.out
  obtain ⟨C_c0, C_c1, C_c2, -, -, -, -⟩ := id C_1.out
  go_wp2_with fail
  refine Calls.mono (FX.out _ X_1.out X'_1.out) ?_
  rintro e w2 ⟨rfl, k2⟩
  clear B_c0 B_c1 B_c2 C_c0 C_c1 C_c2
  have T_2 := Lib.hid (T_1.out.keep k2)
  have X_2 := Lib.hid (X_1.out.keep k2)
  have X'_2 := Lib.hid (X'_1.out.keep k2)
  have B_2 := Lib.hid (B_1.out.keep k2)
  have C_2 := Lib.hid (C_1.out.keep k2)
  have KW_2 := Lib.hid (KW_1.out.trans k2)
  clear k2 T_1 X_1 X'_1 B_1 C_1 KW_1
  obtain ⟨B_c0, B_c1, B_c2, -, -, -, -⟩ := id B_2.out
  obtain ⟨C_c0, C_c1, C_c2, -, -, -, -⟩ := id C_2.out
  go_wp2_with fail
  go_ret
  exact ⟨rfl, KW_2.out⟩
set_option maxHeartbeats 4000000 in
theorem simp_law_b1 {w : World} {s : Bool} {a a' : Option Addr} {n c n' c' : Nat} {lx lx' : List Nat} {t : Bool} {b b' : Option Addr} {m g m' g' : Nat} {ly ly' : List Nat} (hx : Rd w a n c lx) (hx' : Rd w a' n' c' lx') (hy : Rd w b m g ly) (hy' : Rd w b' m' g' ly') (hT : Tab w) (x : Int) (hk0 : 0 ≤ x) (hk1 : x < 65536) (fx : (n ≤ 3 ∧ n' ≤ 3)) (fy : ¬ (m ≤ 3 ∧ m' ≤ 3)) : Calls Tryd.prog 9 #[.agg #[.bool s, .slice a n c, .slice a' n' c'], .agg #[.bool t, .slice b m g, .slice b' m' g'], .int .u16 x] w (BPost true w) := by
  obtain ⟨B_0, C_0, KW_0⟩ := ops2 w s a n c a' n' c' t b m g b' m' g'
  have T_0 := Lib.hid (hT.keep KW_0.out)
  have AW := Lib.hid (fun w1 (hT1 : Tab w1) => awake_c w1 hT1)
  have FX := Lib.hid (fun w1 (h : Rd w1 a n c lx) (h' : Rd w1 a' n' c' lx') => few_c (s := s) h h')
  rw [decide_eq_true fx] at FX
  have X_0 := Lib.hid (hx.below KW_0.out)
  have X'_0 := Lib.hid (hx'.below KW_0.out)
  have FY := Lib.hid (fun w1 (h : Rd w1 b m g ly) (h' : Rd w1 b' m' g' ly') => few_c (s := t) h h')
  rw [decide_eq_false fy] at FY
  have Y_0 := Lib.hid (hy.below KW_0.out)
  have Y'_0 := Lib.hid (hy'.below KW_0.out)
  clear hT hx hx' hy hy'
  go_enter Tryd.func9, Tryd.ntmps9
  obtain ⟨B_c0, B_c1, B_c2, -, -, -, -⟩ := id B_0.out
  obtain ⟨C_c0, C_c1, C_c2, -, -, -, -⟩ := id C_0.out
  go_wp2_with fail
  refine Calls.mono (AW.out _ T_0.out) ?_
  rintro e w1 ⟨rfl, k1⟩
  clear B_c0 B_c1 B_c2 C_c0 C_c1 C_c2
  have T_1 := Lib.hid (T_0.out.keep k1)
  have X_1 := Lib.hid (X_0.out.keep k1)
  have X'_1 := Lib.hid (X'_0.out.keep k1)
  have Y_1 := Lib.hid (Y_0.out.keep k1)
  have Y'_1 := Lib.hid (Y'_0.out.keep k1)
  have B_1 := Lib.hid (B_0.out.keep k1)
  have C_1 := Lib.hid (C_0.out.keep k1)
  have KW_1 := Lib.hid (KW_0.out.trans k1)
  clear k1 T_0 X_0 X'_0 Y_0 Y'_0 B_0 C_0 KW_0
  obtain ⟨B_c0, B_c1, B_c2, -, -, -, -⟩ := id B_1.out
  obtain ⟨C_c0, C_c1, C_c2, -, -, -, -⟩ := id C_1.out
  go_wp2_with fail
  refine Calls.mono (FX.out _ X_1.out X'_1.out) ?_
  rintro e w2 ⟨rfl, k2⟩
  clear B_c0 B_c1 B_c2 C_c0 C_c1 C_c2
  have T_2 := Lib.hid (T_1.out.keep k2)
  have X_2 := Lib.hid (X_1.out.keep k2)
  have X'_2 := Lib.hid (X'_1.out.keep k2)
  have Y_2 := Lib.hid (Y_1.out.keep k2)
  have Y'_2 := Lib.hid (Y'_1.out.keep k2)
  have B_2 := Lib.hid (B_1.out.keep k2)
  have C_2 := Lib.hid (C_1.out.keep k2)
  have KW_2 := Lib.hid (KW_1.out.trans k2)
  clear k2 T_1 X_1 X'_1 Y_1 Y'_1 B_1 C_1 KW_1
  obtain ⟨B_c0, B_c1, B_c2, -, -, -, -⟩ := id B_2.out
  obtain ⟨C_c0, C_c1, C_c2, -, -, -, -⟩ := id C_2.out
  go_wp2_with fail
  refine Calls.mono (FY.out _ Y_2.out Y'_2.out) ?_
  rintro e w3 ⟨rfl, k3⟩
  clear B_c0 B_c1 B_c2 C_c0 C_c1 C_c2
  have T_3 := Lib.hid (T_2.out.keep k3)
  have X_3 := Lib.hid (X_2.out.keep k3)
  have X'_3 := Lib.hid (X'_2.out.keep k3)
  have Y_3 := Lib.hid (Y_2.out.keep k3)
  have Y'_3 := Lib.hid (Y'_2.out.keep k3)
  have B_3 := Lib.hid (B_2.out.keep k3)
  have C_3 := Lib.hid (C_2.out.keep k3)
  have KW_3 := Lib.hid (KW_2.out.trans k3)
  clear k3 T_2 X_2 X'_2 Y_2 Y'_2 B_2 C_2 KW_2
  obtain ⟨B_c0, B_c1, B_c2, -, -, -, -⟩ := id B_3.out
  obtain ⟨C_c0, C_c1, C_c2, -, -, -, -⟩ := id C_3.out
  go_wp2_with fail
  go_ret
  exact ⟨rfl, KW_3.out⟩
theorem rC_nlt {p q : Rat} : ¬ 0 < rC p q ↔ p ≤ q := by
  rcases rC_facts p q with h | h | h
  · rw [h.1]; exact ⟨fun _ => Rat.le_of_lt h.2, fun _ => by decide⟩
  · rw [h.1]; exact ⟨fun _ => h.2 ▸ Rat.le_refl, fun _ => by decide⟩
  · rw [h.1]; exact ⟨fun e => absurd (by decide) e, fun e => absurd e (Rat.not_le.2 h.2)⟩
theorem cr_num {w : World} {b : Bool} {a a' : Option Addr} {n c n' c' : Nat} {q : Rat} (h : Cr w (.agg #[.bool b, .slice a n c, .slice a' n' c']) q) : Cn w (.slice a n c) q.num.natAbs := ⟨a, n, c, rfl, h.rds.2.1⟩
theorem cmpv_le {a b : Nat} (h : a ≤ b) : cmpv a b = -1 ∨ cmpv a b = 0 := by
  rcases Nat.lt_or_ge a b with g | g
  · exact .inl (cmpv_lt g)
  · exact .inr (cmpv_eq (by omega))
set_option maxHeartbeats 4000000 in
theorem simp_law_s0 {w : World} {s : Bool} {a a' : Option Addr} {n c n' c' : Nat} {lx lx' : List Nat} {t : Bool} {b b' : Option Addr} {m g m' g' : Nat} {ly ly' : List Nat} (hx : Rd w a n c lx) (hx' : Rd w a' n' c' lx') (hy : Rd w b m g ly) (hy' : Rd w b' m' g' ly') (hT : Tab w) (x : Int) (hk0 : 0 ≤ x) (hk1 : x < 65536) (fx : (n ≤ 3 ∧ n' ≤ 3)) (fy : (m ≤ 3 ∧ m' ≤ 3)) (h1 : 0 < rC (rv s (nv lx) (nv lx')) (((x / 256 - 128 : Int) : Rat) / ((x % 50 + 1 : Int) : Rat))) : Calls Tryd.prog 9 #[.agg #[.bool s, .slice a n c, .slice a' n' c'], .agg #[.bool t, .slice b m g, .slice b' m' g'], .int .u16 x] w (BPost true w) := by
  obtain ⟨B_0, C_0, KW_0⟩ := ops2 w s a n c a' n' c' t b m g b' m' g'
  have T_0 := Lib.hid (hT.keep KW_0.out)
  have AW := Lib.hid (fun w1 (hT1 : Tab w1) => awake_c w1 hT1)
  have FX := Lib.hid (fun w1 (h : Rd w1 a n c lx) (h' : Rd w1 a' n' c' lx') => few_c (s := s) h h')
  rw [decide_eq_true fx] at FX
  have X_0 := Lib.hid (hx.below KW_0.out)
  have X'_0 := Lib.hid (hx'.below KW_0.out)
  have FY := Lib.hid (fun w1 (h : Rd w1 b m g ly) (h' : Rd w1 b' m' g' ly') => few_c (s := t) h h')
  rw [decide_eq_true fy] at FY
  have Y_0 := Lib.hid (hy.below KW_0.out)
  have Y'_0 := Lib.hid (hy'.below KW_0.out)
  have lX : lx.length ≤ 3 := by rw [hx.len_eq]; exact fx.1
  have lX' : lx'.length ≤ 3 := by rw [hx'.len_eq]; exact fx.2
  have nX : Ra w (.agg #[.bool s, .slice a n c, .slice a' n' c']) (rv s (nv lx) (nv lx')) 3 := ⟨_, _, _, _, _, rfl, hx.toNm rfl lX, hx'.toNm rfl lX', rfl⟩
  obtain ⟨p, hXq⟩ : ∃ q, rv s (nv lx) (nv lx') = q := ⟨_, rfl⟩
  rw [hXq] at nX h1
  have NX_0 := Lib.hid (nX.keep KW_0.out)
  have rbp := nX.rb (by omega)
  have lY : ly.length ≤ 3 := by rw [hy.len_eq]; exact fy.1
  have lY' : ly'.length ≤ 3 := by rw [hy'.len_eq]; exact fy.2
  have nY : Ra w (.agg #[.bool t, .slice b m g, .slice b' m' g']) (rv t (nv ly) (nv ly')) 3 := ⟨_, _, _, _, _, rfl, hy.toNm rfl lY, hy'.toNm rfl lY', rfl⟩
  obtain ⟨q, hYq⟩ : ∃ q, rv t (nv ly) (nv ly') = q := ⟨_, rfl⟩
  rw [hYq] at nY
  have NY_0 := Lib.hid (nY.keep KW_0.out)
  have rbq := nY.rb (by omega)
  have FR := Lib.hid (fun w1 => frac_c (x / 256 - 128) (x % 50 + 1) w1 (by omega) (by omega) (by omega) (by omega) (by omega))
  have hB : BB ^ 3 = 79228162514264337593543950336 := by decide
  have rbu : Rb ((x / 256 - 128 : Int) : Rat) 3 := rb_int (by rw [hB]; omega) (by omega)
  have rbv : Rb ((x % 50 + 1 : Int) : Rat) 3 := rb_int (by rw [hB]; omega) (by omega)
  have rbm : Rb (((x / 256 - 128 : Int) : Rat) / ((x % 50 + 1 : Int) : Rat)) 6 := by rw [Rat.div_def]; exact (rbu.mul (rbv.inv (by omega)) (by omega)).up (by omega)
  obtain ⟨md, hmd⟩ : ∃ q : Rat, ((x / 256 - 128 : Int) : Rat) / ((x % 50 + 1 : Int) : Rat) = q := ⟨_, rfl⟩
  rw [hmd] at FR rbm h1
  have C1 := Lib.hid (fun w1 u (h : Ra w1 (.agg #[.bool s, .slice a n c, .slice a' n' c']) p 3) (hu : Cr w1 u md) => rqcmp_c (h.up (k := 3) (j := 6) (by omega)) (hu.ra rbm) (by omega) (by omega))
  obtain ⟨z1, hz1⟩ : ∃ z, rC p md = z := ⟨_, rfl⟩
  rw [hz1] at C1 h1
  have d1 : decide (0 < z1) = true := decide_eq_true h1
  clear hT hx hx' fx lX lX' nX hy hy' fy lY lY' nY hXq hYq rbp rbq hB rbu rbv rbm hmd hz1 h1
  go_enter Tryd.func9, Tryd.ntmps9
  obtain ⟨B_c0, B_c1, B_c2, -, -, -, -⟩ := id B_0.out
  obtain ⟨C_c0, C_c1, C_c2, -, -, -, -⟩ := id C_0.out
  go_wp2_with fail
  refine Calls.mono (AW.out _ T_0.out) ?_
  rintro e w1 ⟨rfl, k1⟩
  clear B_c0 B_c1 B_c2 C_c0 C_c1 C_c2
  have T_1 := Lib.hid (T_0.out.keep k1)
  have X_1 := Lib.hid (X_0.out.keep k1)
  have X'_1 := Lib.hid (X'_0.out.keep k1)
  have NX_1 := Lib.hid (NX_0.out.keep k1)
  have Y_1 := Lib.hid (Y_0.out.keep k1)
  have Y'_1 := Lib.hid (Y'_0.out.keep k1)
  have NY_1 := Lib.hid (NY_0.out.keep k1)
  have B_1 := Lib.hid (B_0.out.keep k1)
  have C_1 := Lib.hid (C_0.out.keep k1)
  have KW_1 := Lib.hid (KW_0.out.trans k1)
  clear k1 T_0 X_0 X'_0 NX_0 Y_0 Y'_0 NY_0 B_0 C_0 KW_0
  obtain ⟨B_c0, B_c1, B_c2, -, -, -, -⟩ := id B_1.out
  obtain ⟨C_c0, C_c1, C_c2, -, -, -, -⟩ := id C_1.out
  go_wp2_with fail
  refine Calls.mono (FX.out _ X_1.out X'_1.out) ?_
  rintro e w2 ⟨rfl, k2⟩
  clear B_c0 B_c1 B_c2 C_c0 C_c1 C_c2
  have T_2 := Lib.hid (T_1.out.keep k2)
  have X_2 := Lib.hid (X_1.out.keep k2)
  have X'_2 := Lib.hid (X'_1.out.keep k2)
  have NX_2 := Lib.hid (NX_1.out.keep k2)
  have Y_2 := Lib.hid (Y_1.out.keep k2)
  have Y'_2 := Lib.hid (Y'_1.out.keep k2)
  have NY_2 := Lib.hid (NY_1.out.keep k2)
  have B_2 := Lib.hid (B_1.out.keep k2)
  have C_2 := Lib.hid (C_1.out.keep k2)
  have KW_2 := Lib.hid (KW_1.out.trans k2)
  clear k2 T_1 X_1 X'_1 NX_1 Y_1 Y'_1 NY_1 B_1 C_1 KW_1
  obtain ⟨B_c0, B_c1, B_c2, -, -, -, -⟩ := id B_2.out
  obtain ⟨C_c0, C_c1, C_c2, -, -, -, -⟩ := id C_2.out
  go_wp2_with fail
  refine Calls.mono (FY.out _ Y_2.out Y'_2.out) ?_
  rintro e w3 ⟨rfl, k3⟩
  clear B_c0 B_c1 B_c2 C_c0 C_c1 C_c2
  have T_3 := Lib.hid (T_2.out.keep k3)
  have X_3 := Lib.hid (X_2.out.keep k3)
  have X'_3 := Lib.hid (X'_2.out.keep k3)
  have NX_3 := Lib.hid (NX_2.out.keep k3)
  have Y_3 := Lib.hid (Y_2.out.keep k3)
  have Y'_3 := Lib.hid (Y'_2.out.keep k3)
  have NY_3 := Lib.hid (NY_2.out.keep k3)
  have B_3 := Lib.hid (B_2.out.keep k3)
  have C_3 := Lib.hid (C_2.out.keep k3)
  have KW_3 := Lib.hid (KW_2.out.trans k3)
  clear k3 T_2 X_2 X'_2 NX_2 Y_2 Y'_2 NY_2 B_2 C_2 KW_2
  clear AW FX FY
  clear X_3 X'_3 Y_3 Y'_3
  obtain ⟨B_c0, B_c1, B_c2, -, -, -, -⟩ := id B_3.out
  obtain ⟨C_c0, C_c1, C_c2, -, -, -, -⟩ := id C_3.out
  go_wp2_with fail
  refine Calls.mono (FR.out _) ?_
  rintro e w4 ⟨vM, rfl, hS, k4⟩
  clear B_c0 B_c1 B_c2 C_c0 C_c1 C_c2
  have T_4 := Lib.hid (T_3.out.keep k4)
  have NX_4 := Lib.hid (NX_3.out.keep k4)
  have NY_4 := Lib.hid (NY_3.out.keep k4)
  have B_4 := Lib.hid (B_3.out.keep k4)
  have C_4 := Lib.hid (C_3.out.keep k4)
  have CM_4 := Lib.hid hS
  have KW_4 := Lib.hid (KW_3.out.trans k4)
  clear k4 T_3 NX_3 NY_3 B_3 C_3 hS KW_3
  obtain ⟨aM, nM, cM, a'M, n'M, c'M, rfl, -⟩ := Cr.form CM_4.out
  have CM_4_x := CM_4.out
  obtain ⟨bM, hbM⟩ : ∃ b, decide ((md).num < 0) = b := ⟨_, rfl⟩
  rw [hbM] at CM_4_x ⊢
  have CM_4_y := Lib.hid CM_4_x
  clear CM_4_x hbM CM_4
  have T_5 := Lib.hid (T_4.out.keep ((Keep.refl _).alloc (.cells #[.bool bM, .slice aM nM cM, .slice a'M n'M c'M] 25)))
  have NX_5 := Lib.hid (NX_4.out.keep ((Keep.refl _).alloc (.cells #[.bool bM, .slice aM nM cM, .slice a'M n'M c'M] 25)))
  have NY_5 := Lib.hid (NY_4.out.keep ((Keep.refl _).alloc (.cells #[.bool bM, .slice aM nM cM, .slice a'M n'M c'M] 25)))
  have B_5 := Lib.hid (B_4.out.keep ((Keep.refl _).alloc (.cells #[.bool bM, .slice aM nM cM, .slice a'M n'M c'M] 25)))
  have C_5 := Lib.hid (C_4.out.keep ((Keep.refl _).alloc (.cells #[.bool bM, .slice aM nM cM, .slice a'M n'M c'M] 25)))
  have CM_5 := Lib.hid (CM_4_y.out.keep ((Keep.refl _).alloc (.cells #[.bool bM, .slice aM nM cM, .slice a'M n'M c'M] 25)))
  have KW_5 := Lib.hid (KW_4.out.trans ((Keep.refl _).alloc (.cells #[.bool bM, .slice aM nM cM, .slice a'M n'M c'M] 25)))
  clear T_4 NX_4 NY_4 B_4 C_4 CM_4_y KW_4
  have M_5 := Lib.hid (QBox.new w4 bM aM nM cM a'M n'M c'M)
  clear hk0 hk1 FR
  obtain ⟨B_c0, B_c1, B_c2, -, -, -, -⟩ := id B_5.out
  obtain ⟨C_c0, C_c1, C_c2, -, -, -, -⟩ := id C_5.out
  obtain ⟨M_c0, M_c1, M_c2, -, -, -, -⟩ := id M_5.out
  go_wp2_with fail
  refine Calls.mono (C1.out _ _ NX_5.out CM_5.out) ?_
  rintro e w6 ⟨rfl, k6⟩
  clear B_c0 B_c1 B_c2 C_c0 C_c1 C_c2 M_c0 M_c1 M_c2
  have T_6 := Lib.hid (T_5.out.keep k6)
  have NX_6 := Lib.hid (NX_5.out.keep k6)
  have NY_6 := Lib.hid (NY_5.out.keep k6)
  have B_6 := Lib.hid (B_5.out.keep k6)
  have C_6 := Lib.hid (C_5.out.keep k6)
  have CM_6 := Lib.hid (CM_5.out.keep k6)
  have M_6 := Lib.hid (M_5.out.keep k6)
  have KW_6 := Lib.hid (KW_5.out.trans k6)
  clear k6 T_5 NX_5 NY_5 B_5 C_5 CM_5 M_5 KW_5
  obtain ⟨B_c0, B_c1, B_c2, -, -, -, -⟩ := id B_6.out
  obtain ⟨C_c0, C_c1, C_c2, -, -, -, -⟩ := id C_6.out
  obtain ⟨M_c0, M_c1, M_c2, -, -, -, -⟩ := id M_6.out
  go_wp2_with fail
  go_ret
  exact ⟨rfl, KW_6.out⟩
set_option maxHeartbeats 4000000 in
theorem simp_law_s1 {w : World} {s : Bool} {a a' : Option Addr} {n c n' c' : Nat} {lx lx' : List Nat} {t : Bool} {b b' : Option Addr} {m g m' g' : Nat} {ly ly' : List Nat} (hx : Rd w a n c lx) (hx' : Rd w a' n' c' lx') (hy : Rd w b m g ly) (hy' : Rd w b' m' g' ly') (hT : Tab w) (x : Int) (hk0 : 0 ≤ x) (hk1 : x < 65536) (fx : (n ≤ 3 ∧ n' ≤ 3)) (fy : (m ≤ 3 ∧ m' ≤ 3)) (h1 : ¬ 0 < rC (rv s (nv lx) (nv lx')) (((x / 256 - 128 : Int) : Rat) / ((x % 50 + 1 : Int) : Rat))) (h2 : 0 < rC (((x / 256 - 128 : Int) : Rat) / ((x % 50 + 1 : Int) : Rat)) (rv t (nv ly) (nv ly'))) : Calls Tryd.prog 9 #[.agg #[.bool s, .slice a n c, .slice a' n' c'], .agg #[.bool t, .slice b m g, .slice b' m' g'], .int .u16 x] w (BPost true w) := by
  obtain ⟨B_0, C_0, KW_0⟩ := ops2 w s a n c a' n' c' t b m g b' m' g'
  have T_0 := Lib.hid (hT.keep KW_0.out)
  have AW := Lib.hid (fun w1 (hT1 : Tab w1) => awake_c w1 hT1)
  have FX := Lib.hid (fun w1 (h : Rd w1 a n c lx) (h' : Rd w1 a' n' c' lx') => few_c (s := s) h h')
  rw [decide_eq_true fx] at FX
  have X_0 := Lib.hid (hx.below KW_0.out)
  have X'_0 := Lib.hid (hx'.below KW_0.out)
  have FY := Lib.hid (fun w1 (h : Rd w1 b m g ly) (h' : Rd w1 b' m' g' ly') => few_c (s := t) h h')
  rw [decide_eq_true fy] at FY
  have Y_0 := Lib.hid (hy.below KW_0.out)
  have Y'_0 := Lib.hid (hy'.below KW_0.out)
  have lX : lx.length ≤ 3 := by rw [hx.len_eq]; exact fx.1
  have lX' : lx'.length ≤ 3 := by rw [hx'.len_eq]; exact fx.2
  have nX : Ra w (.agg #[.bool s, .slice a n c, .slice a' n' c']) (rv s (nv lx) (nv lx')) 3 := ⟨_, _, _, _, _, rfl, hx.toNm rfl lX, hx'.toNm rfl lX', rfl⟩
  obtain ⟨p, hXq⟩ : ∃ q, rv s (nv lx) (nv lx') = q := ⟨_, rfl⟩
  rw [hXq] at nX h1
  have NX_0 := Lib.hid (nX.keep KW_0.out)
  have rbp := nX.rb (by omega)
  have lY : ly.length ≤ 3 := by rw [hy.len_eq]; exact fy.1
  have lY' : ly'.length ≤ 3 := by rw [hy'.len_eq]; exact fy.2
  have nY : Ra w (.agg #[.bool t, .slice b m g, .slice b' m' g']) (rv t (nv ly) (nv ly')) 3 := ⟨_, _, _, _, _, rfl, hy.toNm rfl lY, hy'.toNm rfl lY', rfl⟩
  obtain ⟨q, hYq⟩ : ∃ q, rv t (nv ly) (nv ly') = q := ⟨_, rfl⟩
  rw [hYq] at nY h2
  have NY_0 := Lib.hid (nY.keep KW_0.out)
  have rbq := nY.rb (by omega)
  have FR := Lib.hid (fun w1 => frac_c (x / 256 - 128) (x % 50 + 1) w1 (by omega) (by omega) (by omega) (by omega) (by omega))
  have hB : BB ^ 3 = 79228162514264337593543950336 := by decide
  have rbu : Rb ((x / 256 - 128 : Int) : Rat) 3 := rb_int (by rw [hB]; omega) (by omega)
  have rbv : Rb ((x % 50 + 1 : Int) : Rat) 3 := rb_int (by rw [hB]; omega) (by omega)
  have rbm : Rb (((x / 256 - 128 : Int) : Rat) / ((x % 50 + 1 : Int) : Rat)) 6 := by rw [Rat.div_def]; exact (rbu.mul (rbv.inv (by omega)) (by omega)).up (by omega)
  obtain ⟨md, hmd⟩ : ∃ q : Rat, ((x / 256 - 128 : Int) : Rat) / ((x % 50 + 1 : Int) : Rat) = q := ⟨_, rfl⟩
  rw [hmd] at FR rbm h1 h2
  have C1 := Lib.hid (fun w1 u (h : Ra w1 (.agg #[.bool s, .slice a n c, .slice a' n' c']) p 3) (hu : Cr w1 u md) => rqcmp_c (h.up (k := 3) (j := 6) (by omega)) (hu.ra rbm) (by omega) (by omega))
  obtain ⟨z1, hz1⟩ : ∃ z, rC p md = z := ⟨_, rfl⟩
  have C2 := Lib.hid (fun w1 u (hu : Cr w1 u md) (h : Ra w1 (.agg #[.bool t, .slice b m g, .slice b' m' g']) q 3) => rqcmp_c (hu.ra rbm) (h.up (k := 3) (j := 6) (by omega)) (by omega) (by omega))
  obtain ⟨z2, hz2⟩ : ∃ z, rC md q = z := ⟨_, rfl⟩
  rw [hz1] at C1 h1
  rw [hz2] at C2 h2
  have d1 : decide (0 < z1) = false := decide_eq_false h1
  have d2 : decide (0 < z2) = true := decide_eq_true h2
  clear hT hx hx' fx lX lX' nX hy hy' fy lY lY' nY hXq hYq rbp rbq hB rbu rbv rbm hmd hz1 h1 hz2 h2
  go_enter Tryd.func9, Tryd.ntmps9
  obtain ⟨B_c0, B_c1, B_c2, -, -, -, -⟩ := id B_0.out
  obtain ⟨C_c0, C_c1, C_c2, -, -, -, -⟩ := id C_0.out
  go_wp2_with fail
  refine Calls.mono (AW.out _ T_0.out) ?_
  rintro e w1 ⟨rfl, k1⟩
  clear B_c0 B_c1 B_c2 C_c0 C_c1 C_c2
  have T_1 := Lib.hid (T_0.out.keep k1)
  have X_1 := Lib.hid (X_0.out.keep k1)
  have X'_1 := Lib.hid (X'_0.out.keep k1)
  have NX_1 := Lib.hid (NX_0.out.keep k1)
  have Y_1 := Lib.hid (Y_0.out.keep k1)
  have Y'_1 := Lib.hid (Y'_0.out.keep k1)
  have NY_1 := Lib.hid (NY_0.out.keep k1)
  have B_1 := Lib.hid (B_0.out.keep k1)
  have C_1 := Lib.hid (C_0.out.keep k1)
  have KW_1 := Lib.hid (KW_0.out.trans k1)
  clear k1 T_0 X_0 X'_0 NX_0 Y_0 Y'_0 NY_0 B_0 C_0 KW_0
  obtain ⟨B_c0, B_c1, B_c2, -, -, -, -⟩ := id B_1.out
  obtain ⟨C_c0, C_c1, C_c2, -, -, -, -⟩ := id C_1.out
  go_wp2_with fail
  refine Calls.mono (FX.out _ X_1.out X'_1.out) ?_
  rintro e w2 ⟨rfl, k2⟩
  clear B_c0 B_c1 B_c2 C_c0 C_c1 C_c2
  have T_2 := Lib.hid (T_1.out.keep k2)
  have X_2 := Lib.hid (X_1.out.keep k2)
  have X'_2 := Lib.hid (X'_1.out.keep k2)
  have NX_2 := Lib.hid (NX_1.out.keep k2)
  have Y_2 := Lib.hid (Y_1.out.keep k2)
  have Y'_2 := Lib.hid (Y'_1.out.keep k2)
  have NY_2 := Lib.hid (NY_1.out.keep k2)
  have B_2 := Lib.hid (B_1.out.keep k2)
  have C_2 := Lib.hid (C_1.out.keep k2)
  have KW_2 := Lib.hid (KW_1.out.trans k2)
  clear k2 T_1 X_1 X'_1 NX_1 Y_1 Y'_1 NY_1 B_1 C_1 KW_1
  obtain ⟨B_c0, B_c1, B_c2, -, -, -, -⟩ := id B_2.out
  obtain ⟨C_c0, C_c1, C_c2, -, -, -, -⟩ := id C_2.out
  go_wp2_with fail
  refine Calls.mono (FY.out _ Y_2.out Y'_2.out) ?_
  rintro e w3 ⟨rfl, k3⟩
  clear B_c0 B_c1 B_c2 C_c0 C_c1 C_c2
  have T_3 := Lib.hid (T_2.out.keep k3)
  have X_3 := Lib.hid (X_2.out.keep k3)
  have X'_3 := Lib.hid (X'_2.out.keep k3)
  have NX_3 := Lib.hid (NX_2.out.keep k3)
  have Y_3 := Lib.hid (Y_2.out.keep k3)
  have Y'_3 := Lib.hid (Y'_2.out.keep k3)
  have NY_3 := Lib.hid (NY_2.out.keep k3)
  have B_3 := Lib.hid (B_2.out.keep k3)
  have C_3 := Lib.hid (C_2.out.keep k3)
  have KW_3 := Lib.hid (KW_2.out.trans k3)
  clear k3 T_2 X_2 X'_2 NX_2 Y_2 Y'_2 NY_2 B_2 C_2 KW_2
  clear AW FX FY
  clear X_3 X'_3 Y_3 Y'_3
  obtain ⟨B_c0, B_c1, B_c2, -, -, -, -⟩ := id B_3.out
  obtain ⟨C_c0, C_c1, C_c2, -, -, -, -⟩ := id C_3.out
  go_wp2_with fail
  refine Calls.mono (FR.out _) ?_
  rintro e w4 ⟨vM, rfl, hS, k4⟩
  clear B_c0 B_c1 B_c2 C_c0 C_c1 C_c2
  have T_4 := Lib.hid (T_3.out.keep k4)
  have NX_4 := Lib.hid (NX_3.out.keep k4)
  have NY_4 := Lib.hid (NY_3.out.keep k4)
  have B_4 := Lib.hid (B_3.out.keep k4)
  have C_4 := Lib.hid (C_3.out.keep k4)
  have CM_4 := Lib.hid hS
  have KW_4 := Lib.hid (KW_3.out.trans k4)
  clear k4 T_3 NX_3 NY_3 B_3 C_3 hS KW_3
  obtain ⟨aM, nM, cM, a'M, n'M, c'M, rfl, -⟩ := Cr.form CM_4.out
  have CM_4_x := CM_4.out
  obtain ⟨bM, hbM⟩ : ∃ b, decide ((md).num < 0) = b := ⟨_, rfl⟩
  rw [hbM] at CM_4_x ⊢
  have CM_4_y := Lib.hid CM_4_x
  clear CM_4_x hbM CM_4
  have T_5 := Lib.hid (T_4.out.keep ((Keep.refl _).alloc (.cells #[.bool bM, .slice aM nM cM, .slice a'M n'M c'M] 25)))
  have NX_5 := Lib.hid (NX_4.out.keep ((Keep.refl _).alloc (.cells #[.bool bM, .slice aM nM cM, .slice a'M n'M c'M] 25)))
  have NY_5 := Lib.hid (NY_4.out.keep ((Keep.refl _).alloc (.cells #[.bool bM, .slice aM nM cM, .slice a'M n'M c'M] 25)))
  have B_5 := Lib.hid (B_4.out.keep ((Keep.refl _).alloc (.cells #[.bool bM, .slice aM nM cM, .slice a'M n'M c'M] 25)))
  have C_5 := Lib.hid (C_4.out.keep ((Keep.refl _).alloc (.cells #[.bool bM, .slice aM nM cM, .slice a'M n'M c'M] 25)))
  have CM_5 := Lib.hid (CM_4_y.out.keep ((Keep.refl _).alloc (.cells #[.bool bM, .slice aM nM cM, .slice a'M n'M c'M] 25)))
  have KW_5 := Lib.hid (KW_4.out.trans ((Keep.refl _).alloc (.cells #[.bool bM, .slice aM nM cM, .slice a'M n'M c'M] 25)))
  clear T_4 NX_4 NY_4 B_4 C_4 CM_4_y KW_4
  have M_5 := Lib.hid (QBox.new w4 bM aM nM cM a'M n'M c'M)
  clear hk0 hk1 FR
  obtain ⟨B_c0, B_c1, B_c2, -, -, -, -⟩ := id B_5.out
  obtain ⟨C_c0, C_c1, C_c2, -, -, -, -⟩ := id C_5.out
  obtain ⟨M_c0, M_c1, M_c2, -, -, -, -⟩ := id M_5.out
  go_wp2_with fail
  refine Calls.mono (C1.out _ _ NX_5.out CM_5.out) ?_
  rintro e w6 ⟨rfl, k6⟩
  clear B_c0 B_c1 B_c2 C_c0 C_c1 C_c2 M_c0 M_c1 M_c2
  have T_6 := Lib.hid (T_5.out.keep k6)
  have NX_6 := Lib.hid (NX_5.out.keep k6)
  have NY_6 := Lib.hid (NY_5.out.keep k6)
  have B_6 := Lib.hid (B_5.out.keep k6)
  have C_6 := Lib.hid (C_5.out.keep k6)
  have CM_6 := Lib.hid (CM_5.out.keep k6)
  have M_6 := Lib.hid (M_5.out.keep k6)
  have KW_6 := Lib.hid (KW_5.out.trans k6)
  clear k6 T_5 NX_5 NY_5 B_5 C_5 CM_5 M_5 KW_5
  obtain ⟨B_c0, B_c1, B_c2, -, -, -, -⟩ := id B_6.out
  obtain ⟨C_c0, C_c1, C_c2, -, -, -, -⟩ := id C_6.out
  obtain ⟨M_c0, M_c1, M_c2, -, -, -, -⟩ := id M_6.out
  go_wp2_with fail
  refine Calls.mono (C2.out _ _ CM_6.out NY_6.out) ?_
  rintro e w7 ⟨rfl, k7⟩
  clear B_c0 B_c1 B_c2 C_c0 C_c1 C_c2 M_c0 M_c1 M_c2
  have T_7 := Lib.hid (T_6.out.keep k7)
  have NX_7 := Lib.hid (NX_6.out.keep k7)
  have NY_7 := Lib.hid (NY_6.out.keep k7)
  have B_7 := Lib.hid (B_6.out.keep k7)
  have C_7 := Lib.hid (C_6.out.keep k7)
  have CM_7 := Lib.hid (CM_6.out.keep k7)
  have M_7 := Lib.hid (M_6.out.keep k7)
  have KW_7 := Lib.hid (KW_6.out.trans k7)
  clear k7 T_6 NX_6 NY_6 B_6 C_6 CM_6 M_6 KW_6
  obtain ⟨B_c0, B_c1, B_c2, -, -, -, -⟩ := id B_7.out
  obtain ⟨C_c0, C_c1, C_c2, -, -, -, -⟩ := id C_7.out
  obtain ⟨M_c0, M_c1, M_c2, -, -, -, -⟩ := id M_7.out
  go_wp2_with fail
  go_ret
  exact ⟨rfl, KW_7.out⟩
set_option maxHeartbeats 4000000 in
theorem simp_law_s2 {w : World} {s : Bool} {a a' : Option Addr} {n c n' c' : Nat} {lx lx' : List Nat} {t : Bool} {b b' : Option Addr} {m g m' g' : Nat} {ly ly' : List Nat} (hx : Rd w a n c lx) (hx' : Rd w a' n' c' lx') (hy : Rd w b m g ly) (hy' : Rd w b' m' g' ly') (hT : Tab w) (x : Int) (hk0 : 0 ≤ x) (hk1 : x < 65536) (fx : (n ≤ 3 ∧ n' ≤ 3)) (fy : (m ≤ 3 ∧ m' ≤ 3)) (h1 : ¬ 0 < rC (rv s (nv lx) (nv lx')) (((x / 256 - 128 : Int) : Rat) / ((x % 50 + 1 : Int) : Rat))) (h2 : ¬ 0 < rC (((x / 256 - 128 : Int) : Rat) / ((x % 50 + 1 : Int) : Rat)) (rv t (nv ly) (nv ly'))) : Calls Tryd.prog 9 #[.agg #[.bool s, .slice a n c, .slice a' n' c'], .agg #[.bool t, .slice b m g, .slice b' m' g'], .int .u16 x] w (BPost true w) := by
  obtain ⟨B_0, C_0, KW_0⟩ := ops2 w s a n c a' n' c' t b m g b' m' g'
  have T_0 := Lib.hid (hT.keep KW_0.out)
  have AW := Lib.hid (fun w1 (hT1 : Tab w1) => awake_c w1 hT1)
  have FX := Lib.hid (fun w1 (h : Rd w1 a n c lx) (h' : Rd w1 a' n' c' lx') => few_c (s := s) h h')
  rw [decide_eq_true fx] at FX
  have X_0 := Lib.hid (hx.below KW_0.out)
  have X'_0 := Lib.hid (hx'.below KW_0.out)
  have FY := Lib.hid (fun w1 (h : Rd w1 b m g ly) (h' : Rd w1 b' m' g' ly') => few_c (s := t) h h')
  rw [decide_eq_true fy] at FY
  have Y_0 := Lib.hid (hy.below KW_0.out)
  have Y'_0 := Lib.hid (hy'.below KW_0.out)
  have lX : lx.length ≤ 3 := by rw [hx.len_eq]; exact fx.1
  have lX' : lx'.length ≤ 3 := by rw [hx'.len_eq]; exact fx.2
  have nX : Ra w (.agg #[.bool s, .slice a n c, .slice a' n' c']) (rv s (nv lx) (nv lx')) 3 := ⟨_, _, _, _, _, rfl, hx.toNm rfl lX, hx'.toNm rfl lX', rfl⟩
  obtain ⟨p, hXq⟩ : ∃ q, rv s (nv lx) (nv lx') = q := ⟨_, rfl⟩
  rw [hXq] at nX h1
  have NX_0 := Lib.hid (nX.keep KW_0.out)
  have rbp := nX.rb (by omega)
  have lY : ly.length ≤ 3 := by rw [hy.len_eq]; exact fy.1
  have lY' : ly'.length ≤ 3 := by rw [hy'.len_eq]; exact fy.2
  have nY : Ra w (.agg #[.bool t, .slice b m g, .slice b' m' g']) (rv t (nv ly) (nv ly')) 3 := ⟨_, _, _, _, _, rfl, hy.toNm rfl lY, hy'.toNm rfl lY', rfl⟩
  obtain ⟨q, hYq⟩ : ∃ q, rv t (nv ly) (nv ly') = q := ⟨_, rfl⟩
  rw [hYq] at nY h2
  have NY_0 := Lib.hid (nY.keep KW_0.out)
  have rbq := nY.rb (by omega)
  have FR := Lib.hid (fun w1 => frac_c (x / 256 - 128) (x % 50 + 1) w1 (by omega) (by omega) (by omega) (by omega) (by omega))
  have hB : BB ^ 3 = 79228162514264337593543950336 := by decide
  have rbu : Rb ((x / 256 - 128 : Int) : Rat) 3 := rb_int (by rw [hB]; omega) (by omega)
  have rbv : Rb ((x % 50 + 1 : Int) : Rat) 3 := rb_int (by rw [hB]; omega) (by omega)
  have rbm : Rb (((x / 256 - 128 : Int) : Rat) / ((x % 50 + 1 : Int) : Rat)) 6 := by rw [Rat.div_def]; exact (rbu.mul (rbv.inv (by omega)) (by omega)).up (by omega)
  obtain ⟨md, hmd⟩ : ∃ q : Rat, ((x / 256 - 128 : Int) : Rat) / ((x % 50 + 1 : Int) : Rat) = q := ⟨_, rfl⟩
  rw [hmd] at FR rbm h1 h2
  have C1 := Lib.hid (fun w1 u (h : Ra w1 (.agg #[.bool s, .slice a n c, .slice a' n' c']) p 3) (hu : Cr w1 u md) => rqcmp_c (h.up (k := 3) (j := 6) (by omega)) (hu.ra rbm) (by omega) (by omega))
  obtain ⟨z1, hz1⟩ : ∃ z, rC p md = z := ⟨_, rfl⟩
  have C2 := Lib.hid (fun w1 u (hu : Cr w1 u md) (h : Ra w1 (.agg #[.bool t, .slice b m g, .slice b' m' g']) q 3) => rqcmp_c (hu.ra rbm) (h.up (k := 3) (j := 6) (by omega)) (by omega) (by omega))
  obtain ⟨z2, hz2⟩ : ∃ z, rC md q = z := ⟨_, rfl⟩
  have l1 := rC_nlt.1 h1
  have l2 := rC_nlt.1 h2
  have lpq : p ≤ q := Rat.le_trans l1 l2
  obtain ⟨i1, i2, i3⟩ := smpR_is lpq
  obtain ⟨g1, g2⟩ := i3 md l1 l2
  obtain ⟨g3, g4⟩ := i3 p Rat.le_refl lpq
  have SP := Lib.hid (fun w1 (h : Ra w1 (.agg #[.bool s, .slice a n c, .slice a' n' c']) p 3) (h' : Ra w1 (.agg #[.bool t, .slice b m g, .slice b' m' g']) q 3) (hT1 : Tab w1) => qsimplest_c h h' lpq (by omega) (by omega) hT1)
  obtain ⟨sp, hsp⟩ : ∃ s, smpR p q = s := ⟨_, rfl⟩
  rw [hsp] at SP i1 i2 g1 g2 g3 g4
  have rbs : Rb sp 6 := Rb.up (k := 3) ⟨Nat.lt_of_le_of_lt g4 rbp.1, Nat.lt_of_le_of_lt g3 rbp.2⟩ (by omega)
  have C3 := Lib.hid (fun w1 u (h : Ra w1 (.agg #[.bool s, .slice a n c, .slice a' n' c']) p 3) (hu : Cr w1 u sp) => rqcmp_c (h.up (k := 3) (j := 6) (by omega)) (hu.ra rbs) (by omega) (by omega))
  have C4 := Lib.hid (fun w1 u (hu : Cr w1 u sp) (h : Ra w1 (.agg #[.bool t, .slice b m g, .slice b' m' g']) q 3) => rqcmp_c (hu.ra rbs) (h.up (k := 3) (j := 6) (by omega)) (by omega) (by omega))
  have h3 := rC_nlt.2 i1
  have h4 := rC_nlt.2 i2
  obtain ⟨z3, hz3⟩ : ∃ z, rC p sp = z := ⟨_, rfl⟩
  obtain ⟨z4, hz4⟩ : ∃ z, rC sp q = z := ⟨_, rfl⟩
  rw [hz3] at C3 h3
  rw [hz4] at C4 h4
  have d3 : decide (0 < z3) = false := decide_eq_false h3
  have d4 : decide (0 < z4) = false := decide_eq_false h4
  have D1 := Lib.hid (fun w1 u (hu : Cr w1 u sp) => rqden_cc (hu.ra rbs) (by omega) (by omega))
  have D2 := Lib.hid (fun w1 u (hu : Cr w1 u md) => rqden_cc (hu.ra rbm) (by omega) (by omega))
  have E1 := Lib.hid (fun w1 u v (hu : Cn w1 u sp.den) (hv : Cn w1 v md.den) => rcmp_n (hu.nm rbs.2) (hv.nm rbm.2))
  have E2 := Lib.hid (fun w1 u v (hu : Cn w1 u sp.num.natAbs) (hv : Cn w1 v md.num.natAbs) => rcmp_n (hu.nm rbs.1) (hv.nm rbm.1))
  have e1 := cmpv_le g1
  have e2 := cmpv_le g2
  obtain ⟨c1, hc1⟩ : ∃ z, cmpv sp.den md.den = z := ⟨_, rfl⟩
  obtain ⟨c2, hc2⟩ : ∃ z, cmpv sp.num.natAbs md.num.natAbs = z := ⟨_, rfl⟩
  rw [hc1] at E1 e1
  rw [hc2] at E2 e2
  have CC := Lib.hid e1
  have d5 : decide (c2 ≤ 0) = true := decide_eq_true (by omega)
  rw [hz1] at C1 h1
  rw [hz2] at C2 h2
  have d1 : decide (0 < z1) = false := decide_eq_false h1
  have d2 : decide (0 < z2) = false := decide_eq_false h2
  clear hT hx hx' fx lX lX' nX hy hy' fy lY lY' nY hXq hYq rbp rbq hB rbu rbv rbm hmd hz1 h1 hz2 h2 l1 l2 lpq i1 i2 i3 g1 g2 g3 g4 hsp rbs h3 h4 hz3 hz4 e1 e2 hc1 hc2
  go_enter Tryd.func9, Tryd.ntmps9
  obtain ⟨B_c0, B_c1, B_c2, -, -, -, -⟩ := id B_0.out
  obtain ⟨C_c0, C_c1, C_c2, -, -, -, -⟩ := id C_0.out
  go_wp2_with fail
  refine Calls.mono (AW.out _ T_0.out) ?_
  rintro e w1 ⟨rfl, k1⟩
  clear B_c0 B_c1 B_c2 C_c0 C_c1 C_c2
  have T_1 := Lib.hid (T_0.out.keep k1)
  have X_1 := Lib.hid (X_0.out.keep k1)
  have X'_1 := Lib.hid (X'_0.out.keep k1)
  have NX_1 := Lib.hid (NX_0.out.keep k1)
  have Y_1 := Lib.hid (Y_0.out.keep k1)
  have Y'_1 := Lib.hid (Y'_0.out.keep k1)
  have NY_1 := Lib.hid (NY_0.out.keep k1)
  have B_1 := Lib.hid (B_0.out.keep k1)
  have C_1 := Lib.hid (C_0.out.keep k1)
  have KW_1 := Lib.hid (KW_0.out.trans k1)
  clear k1 T_0 X_0 X'_0 NX_0 Y_0 Y'_0 NY_0 B_0 C_0 KW_0
  obtain ⟨B_c0, B_c1, B_c2, -, -, -, -⟩ := id B_1.out
  obtain ⟨C_c0, C_c1, C_c2, -, -, -, -⟩ := id C_1.out
  go_wp2_with fail
  refine Calls.mono (FX.out _ X_1.out X'_1.out) ?_
  rintro e w2 ⟨rfl, k2⟩
  clear B_c0 B_c1 B_c2 C_c0 C_c1 C_c2
  have T_2 := Lib.hid (T_1.out.keep k2)
  have X_2 := Lib.hid (X_1.out.keep k2)
  have X'_2 := Lib.hid (X'_1.out.keep k2)
  have NX_2 := Lib.hid (NX_1.out.keep k2)
  have Y_2 := Lib.hid (Y_1.out.keep k2)
  have Y'_2 := Lib.hid (Y'_1.out.keep k2)
  have NY_2 := Lib.hid (NY_1.out.keep k2)
  have B_2 := Lib.hid (B_1.out.keep k2)
  have C_2 := Lib.hid (C_1.out.keep k2)
  have KW_2 := Lib.hid (KW_1.out.trans k2)
  clear k2 T_1 X_1 X'_1 NX_1 Y_1 Y'_1 NY_1 B_1 C_1 KW_1
  obtain ⟨B_c0, B_c1, B_c2, -, -, -, -⟩ := id B_2.out
  obtain ⟨C_c0, C_c1, C_c2, -, -, -, -⟩ := id C_2.out
  go_wp2_with fail
  refine Calls.mono (FY.out _ Y_2.out Y'_2.out) ?_
  rintro e w3 ⟨rfl, k3⟩
  clear B_c0 B_c1 B_c2 C_c0 C_c1 C_c2
  have T_3 := Lib.hid (T_2.out.keep k3)
  have X_3 := Lib.hid (X_2.out.keep k3)
  have X'_3 := Lib.hid (X'_2.out.keep k3)
  have NX_3 := Lib.hid (NX_2.out.keep k3)
  have Y_3 := Lib.hid (Y_2.out.keep k3)
  have Y'_3 := Lib.hid (Y'_2.out.keep k3)
  have NY_3 := Lib.hid (NY_2.out.keep k3)
  have B_3 := Lib.hid (B_2.out.keep k3)
  have C_3 := Lib.hid (C_2.out.keep k3)
  have KW_3 := Lib.hid (KW_2.out.trans k3)
  clear k3 T_2 X_2 X'_2 NX_2 Y_2 Y'_2 NY_2 B_2 C_2 KW_2
  clear AW FX FY
  clear X_3 X'_3 Y_3 Y'_3
  obtain ⟨B_c0, B_c1, B_c2, -, -, -, -⟩ := id B_3.out
  obtain ⟨C_c0, C_c1, C_c2, -, -, -, -⟩ := id C_3.out
  go_wp2_with fail
  refine Calls.mono (FR.out _) ?_
  rintro e w4 ⟨vM, rfl, hS, k4⟩
  clear B_c0 B_c1 B_c2 C_c0 C_c1 C_c2
  have T_4 := Lib.hid (T_3.out.keep k4)
  have NX_4 := Lib.hid (NX_3.out.keep k4)
  have NY_4 := Lib.hid (NY_3.out.keep k4)
  have B_4 := Lib.hid (B_3.out.keep k4)
  have C_4 := Lib.hid (C_3.out.keep k4)
  have CM_4 := Lib.hid hS
  have KW_4 := Lib.hid (KW_3.out.trans k4)
  clear k4 T_3 NX_3 NY_3 B_3 C_3 hS KW_3
  obtain ⟨aM, nM, cM, a'M, n'M, c'M, rfl, -⟩ := Cr.form CM_4.out
  have CM_4_x := CM_4.out
  obtain ⟨bM, hbM⟩ : ∃ b, decide ((md).num < 0) = b := ⟨_, rfl⟩
  rw [hbM] at CM_4_x ⊢
  have CM_4_y := Lib.hid CM_4_x
  clear CM_4_x hbM CM_4
  have T_5 := Lib.hid (T_4.out.keep ((Keep.refl _).alloc (.cells #[.bool bM, .slice aM nM cM, .slice a'M n'M c'M] 25)))
  have NX_5 := Lib.hid (NX_4.out.keep ((Keep.refl _).alloc (.cells #[.bool bM, .slice aM nM cM, .slice a'M n'M c'M] 25)))
  have NY_5 := Lib.hid (NY_4.out.keep ((Keep.refl _).alloc (.cells #[.bool bM, .slice aM nM cM, .slice a'M n'M c'M] 25)))
  have B_5 := Lib.hid (B_4.out.keep ((Keep.refl _).alloc (.cells #[.bool bM, .slice aM nM cM, .slice a'M n'M c'M] 25)))
  have C_5 := Lib.hid (C_4.out.keep ((Keep.refl _).alloc (.cells #[.bool bM, .slice aM nM cM, .slice a'M n'M c'M] 25)))
  have CM_5 := Lib.hid (CM_4_y.out.keep ((Keep.refl _).alloc (.cells #[.bool bM, .slice aM nM cM, .slice a'M n'M c'M] 25)))
  have KW_5 := Lib.hid (KW_4.out.trans ((Keep.refl _).alloc (.cells #[.bool bM, .slice aM nM cM, .slice a'M n'M c'M] 25)))
  clear T_4 NX_4 NY_4 B_4 C_4 CM_4_y KW_4
  have M_5 := Lib.hid (QBox.new w4 bM aM nM cM a'M n'M c'M)
  clear hk0 hk1 FR
  obtain ⟨B_c0, B_c1, B_c2, -, -, -, -⟩ := id B_5.out
  obtain ⟨C_c0, C_c1, C_c2, -, -, -, -⟩ := id C_5.out
  obtain ⟨M_c0, M_c1, M_c2, -, -, -, -⟩ := id M_5.out
  go_wp2_with fail
  refine Calls.mono (C1.out _ _ NX_5.out CM_5.out) ?_
  rintro e w6 ⟨rfl, k6⟩
  clear B_c0 B_c1 B_c2 C_c0 C_c1 C_c2 M_c0 M_c1 M_c2
  have T_6 := Lib.hid (T_5.out.keep k6)
  have NX_6 := Lib.hid (NX_5.out.keep k6)
  have NY_6 := Lib.hid (NY_5.out.keep k6)
  have B_6 := Lib.hid (B_5.out.keep k6)
  have C_6 := Lib.hid (C_5.out.keep k6)
  have CM_6 := Lib.hid (CM_5.out.keep k6)
  have M_6 := Lib.hid (M_5.out.keep k6)
  have KW_6 := Lib.hid (KW_5.out.trans k6)
  clear k6 T_5 NX_5 NY_5 B_5 C_5 CM_5 M_5 KW_5
  obtain ⟨B_c0, B_c1, B_c2, -, -, -, -⟩ := id B_6.out
  obtain ⟨C_c0, C_c1, C_c2, -, -, -, -⟩ := id C_6.out
  obtain ⟨M_c0, M_c1, M_c2, -, -, -, -⟩ := id M_6.out
  go_wp2_with fail
  refine Calls.mono (C2.out _ _ CM_6.out NY_6.out) ?_
  rintro e w7 ⟨rfl, k7⟩
  clear B_c0 B_c1 B_c2 C_c0 C_c1 C_c2 M_c0 M_c1 M_c2
  have T_7 := Lib.hid (T_6.out.keep k7)
  have NX_7 := Lib.hid (NX_6.out.keep k7)
  have NY_7 := Lib.hid (NY_6.out.keep k7)
  have B_7 := Lib.hid (B_6.out.keep k7)
  have C_7 := Lib.hid (C_6.out.keep k7)
  have CM_7 := Lib.hid (CM_6.out.keep k7)
  have M_7 := Lib.hid (M_6.out.keep k7)
  have KW_7 := Lib.hid (KW_6.out.trans k7)
  clear k7 T_6 NX_6 NY_6 B_6 C_6 CM_6 M_6 KW_6
  obtain ⟨B_c0, B_c1, B_c2, -, -, -, -⟩ := id B_7.out
  obtain ⟨C_c0, C_c1, C_c2, -, -, -, -⟩ := id C_7.out
  obtain ⟨M_c0, M_c1, M_c2, -, -, -, -⟩ := id M_7.out
  go_wp2_with fail
  refine Calls.mono (SP.out _ NX_7.out NY_7.out T_7.out) ?_
  rintro e w8 ⟨vS, rfl, hS, k8⟩
  clear B_c0 B_c1 B_c2 C_c0 C_c1 C_c2 M_c0 M_c1 M_c2
  have T_8 := Lib.hid (T_7.out.keep k8)
  have NX_8 := Lib.hid (NX_7.out.keep k8)
  have NY_8 := Lib.hid (NY_7.out.keep k8)
  have B_8 := Lib.hid (B_7.out.keep k8)
  have C_8 := Lib.hid (C_7.out.keep k8)
  have CM_8 := Lib.hid (CM_7.out.keep k8)
  have M_8 := Lib.hid (M_7.out.keep k8)
  have CS_8 := Lib.hid hS
  have KW_8 := Lib.hid (KW_7.out.trans k8)
  clear k8 T_7 NX_7 NY_7 B_7 C_7 CM_7 M_7 hS KW_7
  obtain ⟨aS, nS, cS, a'S, n'S, c'S, rfl, -⟩ := Cr.form CS_8.out
  have CS_8_x := CS_8.out
  obtain ⟨bS, hbS⟩ : ∃ b, decide ((sp).num < 0) = b := ⟨_, rfl⟩
  rw [hbS] at CS_8_x ⊢
  have CS_8_y := Lib.hid CS_8_x
  clear CS_8_x hbS CS_8
  have T_9 := Lib.hid (T_8.out.keep ((Keep.refl _).alloc (.cells #[.bool bS, .slice aS nS cS, .slice a'S n'S c'S] 25)))
  have NX_9 := Lib.hid (NX_8.out.keep ((Keep.refl _).alloc (.cells #[.bool bS, .slice aS nS cS, .slice a'S n'S c'S] 25)))
  have NY_9 := Lib.hid (NY_8.out.keep ((Keep.refl _).alloc (.cells #[.bool bS, .slice aS nS cS, .slice a'S n'S c'S] 25)))
  have B_9 := Lib.hid (B_8.out.keep ((Keep.refl _).alloc (.cells #[.bool bS, .slice aS nS cS, .slice a'S n'S c'S] 25)))
  have C_9 := Lib.hid (C_8.out.keep ((Keep.refl _).alloc (.cells #[.bool bS, .slice aS nS cS, .slice a'S n'S c'S] 25)))
  have CM_9 := Lib.hid (CM_8.out.keep ((Keep.refl _).alloc (.cells #[.bool bS, .slice aS nS cS, .slice a'S n'S c'S] 25)))
  have M_9 := Lib.hid (M_8.out.keep ((Keep.refl _).alloc (.cells #[.bool bS, .slice aS nS cS, .slice a'S n'S c'S] 25)))
  have CS_9 := Lib.hid (CS_8_y.out.keep ((Keep.refl _).alloc (.cells #[.bool bS, .slice aS nS cS, .slice a'S n'S c'S] 25)))
  have KW_9 := Lib.hid (KW_8.out.trans ((Keep.refl _).alloc (.cells #[.bool bS, .slice aS nS cS, .slice a'S n'S c'S] 25)))
  clear T_8 NX_8 NY_8 B_8 C_8 CM_8 M_8 CS_8_y KW_8
  have S_9 := Lib.hid (QBox.new w8 bS aS nS cS a'S n'S c'S)
  obtain ⟨B_c0, B_c1, B_c2, -, -, -, -⟩ := id B_9.out
  obtain ⟨C_c0, C_c1, C_c2, -, -, -, -⟩ := id C_9.out
  obtain ⟨M_c0, M_c1, M_c2, -, -, -, -⟩ := id M_9.out
  obtain ⟨S_c0, S_c1, S_c2, -, -, -, -⟩ := id S_9.out
  go_wp2_with fail
  refine Calls.mono (C3.out _ _ NX_9.out CS_9.out) ?_
  rintro e w10 ⟨rfl, k10⟩
  clear B_c0 B_c1 B_c2 C_c0 C_c1 C_c2 M_c0 M_c1 M_c2 S_c0 S_c1 S_c2
  have T_10 := Lib.hid (T_9.out.keep k10)
  have NX_10 := Lib.hid (NX_9.out.keep k10)
  have NY_10 := Lib.hid (NY_9.out.keep k10)
  have B_10 := Lib.hid (B_9.out.keep k10)
  have C_10 := Lib.hid (C_9.out.keep k10)
  have CM_10 := Lib.hid (CM_9.out.keep k10)
  have M_10 := Lib.hid (M_9.out.keep k10)
  have CS_10 := Lib.hid (CS_9.out.keep k10)
  have S_10 := Lib.hid (S_9.out.keep k10)
  have KW_10 := Lib.hid (KW_9.out.trans k10)
  clear k10 T_9 NX_9 NY_9 B_9 C_9 CM_9 M_9 CS_9 S_9 KW_9
  obtain ⟨B_c0, B_c1, B_c2, -, -, -, -⟩ := id B_10.out
  obtain ⟨C_c0, C_c1, C_c2, -, -, -, -⟩ := id C_10.out
  obtain ⟨M_c0, M_c1, M_c2, -, -, -, -⟩ := id M_10.out
  obtain ⟨S_c0, S_c1, S_c2, -, -, -, -⟩ := id S_10.out
  go_wp2_with fail
  refine Calls.mono (C4.out _ _ CS_10.out NY_10.out) ?_
  rintro e w11 ⟨rfl, k11⟩
  clear B_c0 B_c1 B_c2 C_c0 C_c1 C_c2 M_c0 M_c1 M_c2 S_c0 S_c1 S_c2
  have T_11 := Lib.hid (T_10.out.keep k11)
  have NX_11 := Lib.hid (NX_10.out.keep k11)
  have NY_11 := Lib.hid (NY_10.out.keep k11)
  have B_11 := Lib.hid (B_10.out.keep k11)
  have C_11 := Lib.hid (C_10.out.keep k11)
  have CM_11 := Lib.hid (CM_10.out.keep k11)
  have M_11 := Lib.hid (M_10.out.keep k11)
  have CS_11 := Lib.hid (CS_10.out.keep k11)
  have S_11 := Lib.hid (S_10.out.keep k11)
  have KW_11 := Lib.hid (KW_10.out.trans k11)
  clear k11 T_10 NX_10 NY_10 B_10 C_10 CM_10 M_10 CS_10 S_10 KW_10
  clear C1 C2 C3 C4 SP
  have T_12 := Lib.hid (T_11.out.keep (keep_drew _))
  clear T_11
  have NX_12 := Lib.hid (NX_11.out.keep (keep_drew _))
  clear NX_11
  have NY_12 := Lib.hid (NY_11.out.keep (keep_drew _))
  clear NY_11
  have B_12 := Lib.hid (B_11.out.keep (keep_drew _))
  clear B_11
  have C_12 := Lib.hid (C_11.out.keep (keep_drew _))
  clear C_11
  have CM_12 := Lib.hid (CM_11.out.keep (keep_drew _))
  clear CM_11
  have M_12 := Lib.hid (M_11.out.keep (keep_drew _))
  clear M_11
  have CS_12 := Lib.hid (CS_11.out.keep (keep_drew _))
  clear CS_11
  have S_12 := Lib.hid (S_11.out.keep (keep_drew _))
  clear S_11
  have KW_12 := Lib.hid (KW_11.out.trans (keep_drew _))
  clear KW_11
  obtain ⟨cS_12_0, cS_12_1, cS_12_2, -, -, -, -⟩ := id S_12.out
  obtain ⟨cM_12_0, cM_12_1, cM_12_2, -, -, -, -⟩ := id M_12.out
  go_wp2
  go_region_held3 (fun w' => w'.cell? ⟨w8.heap.size, 0, none⟩ = some (.bool bS) ∧ w'.cell? ⟨w8.heap.size, 1, none⟩ = some (.slice aS nS cS) ∧ w'.cell? ⟨w8.heap.size, 2, none⟩ = some (.slice a'S n'S c'S) ∧ w'.cell? ⟨w4.heap.size, 0, none⟩ = some (.bool bM) ∧ w'.cell? ⟨w4.heap.size, 1, none⟩ = some (.slice aM nM cM) ∧ w'.cell? ⟨w4.heap.size, 2, none⟩ = some (.slice a'M n'M c'M)) (first | exact ⟨cS_15_0, cS_15_1, cS_15_2, cM_15_0, cM_15_1, cM_15_2⟩ | exact ⟨cS_14_0, cS_14_1, cS_14_2, cM_14_0, cM_14_1, cM_14_2⟩ | exact ⟨cS_13_0, cS_13_1, cS_13_2, cM_13_0, cM_13_1, cM_13_2⟩ | exact ⟨cS_12_0, cS_12_1, cS_12_2, cM_12_0, cM_12_1, cM_12_2⟩ | go_keep)
    (first
      | (go_at_call 49; ((with_reducible refine Calls.mono (E1.out _ _ _ A_14.out E_14.out) ?_); rintro e w15 ⟨rfl, k15⟩; have T_15 := Lib.hid (T_14.out.keep k15); have NX_15 := Lib.hid (NX_14.out.keep k15); have NY_15 := Lib.hid (NY_14.out.keep k15); have B_15 := Lib.hid (B_14.out.keep k15); have C_15 := Lib.hid (C_14.out.keep k15); have CM_15 := Lib.hid (CM_14.out.keep k15); have M_15 := Lib.hid (M_14.out.keep k15); have CS_15 := Lib.hid (CS_14.out.keep k15); have S_15 := Lib.hid (S_14.out.keep k15); have A_15 := Lib.hid (A_14.out.keep k15); have E_15 := Lib.hid (E_14.out.keep k15); have KW_15 := Lib.hid (KW_14.out.trans k15); obtain ⟨cS_15_0, cS_15_1, cS_15_2, -, -, -, -⟩ := id S_15.out; obtain ⟨cM_15_0, cM_15_1, cM_15_2, -, -, -, -⟩ := id M_15.out; clear k15))
      | (go_at_call 23; ((with_reducible refine Calls.mono (D2.out _ _ CM_13.out) ?_); rintro e w14 ⟨x2, rfl, hB, k14⟩; have T_14 := Lib.hid (T_13.out.keep k14); have NX_14 := Lib.hid (NX_13.out.keep k14); have NY_14 := Lib.hid (NY_13.out.keep k14); have B_14 := Lib.hid (B_13.out.keep k14); have C_14 := Lib.hid (C_13.out.keep k14); have CM_14 := Lib.hid (CM_13.out.keep k14); have M_14 := Lib.hid (M_13.out.keep k14); have CS_14 := Lib.hid (CS_13.out.keep k14); have S_14 := Lib.hid (S_13.out.keep k14); have A_14 := Lib.hid (A_13.out.keep k14); have E_14 := Lib.hid hB; clear hB; have KW_14 := Lib.hid (KW_13.out.trans k14); obtain ⟨cS_14_0, cS_14_1, cS_14_2, -, -, -, -⟩ := id S_14.out; obtain ⟨cM_14_0, cM_14_1, cM_14_2, -, -, -, -⟩ := id M_14.out; clear k14))
      | (go_at_call 23; ((with_reducible refine Calls.mono (D1.out _ _ CS_12.out) ?_); rintro e w13 ⟨x1, rfl, hA, k13⟩; have T_13 := Lib.hid (T_12.out.keep k13); have NX_13 := Lib.hid (NX_12.out.keep k13); have NY_13 := Lib.hid (NY_12.out.keep k13); have B_13 := Lib.hid (B_12.out.keep k13); have C_13 := Lib.hid (C_12.out.keep k13); have CM_13 := Lib.hid (CM_12.out.keep k13); have M_13 := Lib.hid (M_12.out.keep k13); have CS_13 := Lib.hid (CS_12.out.keep k13); have S_13 := Lib.hid (S_12.out.keep k13); have A_13 := Lib.hid hA; clear hA; have KW_13 := Lib.hid (KW_12.out.trans k13); obtain ⟨cS_13_0, cS_13_1, cS_13_2, -, -, -, -⟩ := id S_13.out; obtain ⟨cM_13_0, cM_13_1, cM_13_2, -, -, -, -⟩ := id M_13.out; clear k13)))
  clear cS_15_0 cS_15_1 cS_15_2 cM_15_0 cM_15_1 cM_15_2 cS_14_0 cS_14_1 cS_14_2 cM_14_0 cM_14_1 cM_14_2 cS_13_0 cS_13_1 cS_13_2 cM_13_0 cM_13_1 cM_13_2 cS_12_0 cS_12_1 cS_12_2 cM_12_0 cM_12_1 cM_12_2
  clear E1 D1 D2
  rcases CC.out with hcc | hcc
  · subst hcc
    obtain ⟨B_c0, B_c1, B_c2, -, -, -, -⟩ := id B_15.out
    obtain ⟨C_c0, C_c1, C_c2, -, -, -, -⟩ := id C_15.out
    obtain ⟨M_c0, M_c1, M_c2, -, -, -, -⟩ := id M_15.out
    obtain ⟨S_c0, S_c1, S_c2, -, -, -, -⟩ := id S_15.out
    go_wp2_with fail
    go_ret
    exact ⟨rfl, KW_15.out⟩
  · subst hcc
    obtain ⟨B_c0, B_c1, B_c2, -, -, -, -⟩ := id B_15.out
    obtain ⟨C_c0, C_c1, C_c2, -, -, -, -⟩ := id C_15.out
    obtain ⟨M_c0, M_c1, M_c2, -, -, -, -⟩ := id M_15.out
    obtain ⟨S_c0, S_c1, S_c2, -, -, -, -⟩ := id S_15.out
    go_wp2_with fail
    refine Calls.mono (E2.out _ _ _ (cr_num CS_15.out) (cr_num CM_15.out)) ?_
    rintro e w16 ⟨rfl, k16⟩
    clear B_c0 B_c1 B_c2 C_c0 C_c1 C_c2 M_c0 M_c1 M_c2 S_c0 S_c1 S_c2
    have T_16 := Lib.hid (T_15.out.keep k16)
    have NX_16 := Lib.hid (NX_15.out.keep k16)
    have NY_16 := Lib.hid (NY_15.out.keep k16)
    have B_16 := Lib.hid (B_15.out.keep k16)
    have C_16 := Lib.hid (C_15.out.keep k16)
    have CM_16 := Lib.hid (CM_15.out.keep k16)
    have M_16 := Lib.hid (M_15.out.keep k16)
    have CS_16 := Lib.hid (CS_15.out.keep k16)
    have S_16 := Lib.hid (S_15.out.keep k16)
    have A_16 := Lib.hid (A_15.out.keep k16)
    have E_16 := Lib.hid (E_15.out.keep k16)
    have KW_16 := Lib.hid (KW_15.out.trans k16)
    clear k16 T_15 NX_15 NY_15 B_15 C_15 CM_15 M_15 CS_15 S_15 A_15 E_15 KW_15
    obtain ⟨B_c0, B_c1, B_c2, -, -, -, -⟩ := id B_16.out
    obtain ⟨C_c0, C_c1, C_c2, -, -, -, -⟩ := id C_16.out
    obtain ⟨M_c0, M_c1, M_c2, -, -, -, -⟩ := id M_16.out
    obtain ⟨S_c0, S_c1, S_c2, -, -, -, -⟩ := id S_16.out
    go_wp2_with fail
    go_ret
    exact ⟨rfl, KW_16.out⟩
theorem simp_law_c {w : World} {s : Bool} {a a' : Option Addr} {n c n' c' : Nat} {lx lx' : List Nat} {t : Bool} {b b' : Option Addr} {m g m' g' : Nat} {ly ly' : List Nat} (hx : Rd w a n c lx) (hx' : Rd w a' n' c' lx') (hy : Rd w b m g ly) (hy' : Rd w b' m' g' ly') (hT : Tab w) (x : Int) (hk0 : 0 ≤ x) (hk1 : x < 65536) : Calls Tryd.prog 9 #[.agg #[.bool s, .slice a n c, .slice a' n' c'], .agg #[.bool t, .slice b m g, .slice b' m' g'], .int .u16 x] w (BPost true w) := by
  by_cases fx : (n ≤ 3 ∧ n' ≤ 3)
  · by_cases fy : (m ≤ 3 ∧ m' ≤ 3)
    · by_cases h1 : 0 < rC (rv s (nv lx) (nv lx')) (((x / 256 - 128 : Int) : Rat) / ((x % 50 + 1 : Int) : Rat))
      · exact simp_law_s0 hx hx' hy hy' hT x hk0 hk1 fx fy h1
      · by_cases h2 : 0 < rC (((x / 256 - 128 : Int) : Rat) / ((x % 50 + 1 : Int) : Rat)) (rv t (nv ly) (nv ly'))
        · exact simp_law_s1 hx hx' hy hy' hT x hk0 hk1 fx fy h1 h2
        · exact simp_law_s2 hx hx' hy hy' hT x hk0 hk1 fx fy h1 h2
    · exact simp_law_b1 hx hx' hy hy' hT x hk0 hk1 fx fy
  · exact simp_law_b0 hx hx' hy hy' hT x hk0 hk1 fx
end Go.Proofs.YtjkfnnoakjdgmaaDoor
