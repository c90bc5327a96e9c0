/- Walks of layer 3: the law of making. -/
import Derived.Test.YtjkfnnoakjdgmaaDoorRL2
import Derived.Deep.DeepCutAuto
import Derived.Outline
namespace Go.Proofs.YtjkfnnoakjdgmaaDoor
open Go.RowKit
set_option linter.unusedVariables false
theorem opi2 (w : World) (s : Bool) (a : Option Addr) (n c : Nat) (t : Bool) (b : Option Addr) (m g : Nat) :
    Hid (RBox w.heap.size (.bool s) (.slice a n c) ((w.alloc (.cells #[.bool s, .slice a n c] 32)).alloc (.cells #[.bool t, .slice b m g] 32))) ∧ Hid (RBox (w.heap.size + 1) (.bool t) (.slice b m g) ((w.alloc (.cells #[.bool s, .slice a n c] 32)).alloc (.cells #[.bool t, .slice b m g] 32))) ∧ Hid (Keep w ((w.alloc (.cells #[.bool s, .slice a n c] 32)).alloc (.cells #[.bool t, .slice b m g] 32))) :=
  ⟨Lib.hid ((RBox.new w s a n c).keep ((Keep.refl _).alloc _)), Lib.hid ((RBox.new (w.alloc _) t b m g).at (sz1 _ _)), Lib.hid (((Keep.refl w).alloc _).alloc _)⟩
set_option maxHeartbeats 4000000 in
theorem make_law_b0 {w : World} {s t : Bool} {a b : Option Addr} {n c m g : Nat} {lx ly : List Nat} (x : Int) (hx : Rd w a n c lx) (hy : Rd w b m g ly) (hT : Tab w) (hx1 : -9223372036854775808 ≤ x) (hx2 : x ≤ 9223372036854775807) (f1 : 3 < n) : Calls Tryd.prog 4 #[.agg #[.bool s, .slice a n c], .agg #[.bool t, .slice b m g], .int .i64 x] w (BPost true w) := by
  obtain ⟨B_0, C_0, KW_0⟩ := opi2 w s a n c t b m g
  have T_0 := Lib.hid (hT.keep KW_0.out)
  have AW := Lib.hid (fun w1 (hT1 : Tab w1) => awake_c w1 hT1)
  have q1 := hx.le_cap
  have q2 := hx.cap_le
  have q3 := hy.le_cap
  have q4 := hy.cap_le
  have d1 : decide ((3 : Int) < (n : Int)) = true := decide_eq_true (by omega)
  clear hx hy hT f1
  go_enter Tryd.func4, Tryd.ntmps4
  obtain ⟨B_c0, B_c1, -, -, -⟩ := id B_0.out
  obtain ⟨C_c0, C_c1, -, -, -⟩ := id C_0.out
  go_wp2_with fail
  refine Calls.mono (AW.out _ T_0.out) ?_
  rintro e w1 ⟨rfl, k1⟩
  clear B_c0 B_c1 C_c0 C_c1
  have T_1 := Lib.hid (T_0.out.keep k1)
  have B_1 := Lib.hid (B_0.out.keep k1)
  have C_1 := Lib.hid (C_0.out.keep k1)
  have KW_1 := Lib.hid (KW_0.out.trans k1)
  clear k1 T_0 B_0 C_0 KW_0
  obtain ⟨B_c0, B_c1, -, -, -⟩ := id B_1.out
  obtain ⟨C_c0, C_c1, -, -, -⟩ := id C_1.out
  go_wp2_with fail
  go_ret
  exact ⟨rfl, KW_1.out⟩
set_option maxHeartbeats 4000000 in
theorem make_law_b1 {w : World} {s t : Bool} {a b : Option Addr} {n c m g : Nat} {lx ly : List Nat} (x : Int) (hx : Rd w a n c lx) (hy : Rd w b m g ly) (hT : Tab w) (hx1 : -9223372036854775808 ≤ x) (hx2 : x ≤ 9223372036854775807) (f1 : n ≤ 3) (f2 : 3 < m) : Calls Tryd.prog 4 #[.agg #[.bool s, .slice a n c], .agg #[.bool t, .slice b m g], .int .i64 x] w (BPost true w) := by
  obtain ⟨B_0, C_0, KW_0⟩ := opi2 w s a n c t b m g
  have T_0 := Lib.hid (hT.keep KW_0.out)
  have AW := Lib.hid (fun w1 (hT1 : Tab w1) => awake_c w1 hT1)
  have q1 := hx.le_cap
  have q2 := hx.cap_le
  have q3 := hy.le_cap
  have q4 := hy.cap_le
  have d1 : decide ((3 : Int) < (n : Int)) = false := decide_eq_false (by omega)
  have d2 : decide ((3 : Int) < (m : Int)) = true := decide_eq_true (by omega)
  clear hx hy hT f1 f2
  go_enter Tryd.func4, Tryd.ntmps4
  obtain ⟨B_c0, B_c1, -, -, -⟩ := id B_0.out
  obtain ⟨C_c0, C_c1, -, -, -⟩ := id C_0.out
  go_wp2_with fail
  refine Calls.mono (AW.out _ T_0.out) ?_
  rintro e w1 ⟨rfl, k1⟩
  clear B_c0 B_c1 C_c0 C_c1
  have T_1 := Lib.hid (T_0.out.keep k1)
  have B_1 := Lib.hid (B_0.out.keep k1)
  have C_1 := Lib.hid (C_0.out.keep k1)
  have KW_1 := Lib.hid (KW_0.out.trans k1)
  clear k1 T_0 B_0 C_0 KW_0
  obtain ⟨B_c0, B_c1, -, -, -⟩ := id B_1.out
  obtain ⟨C_c0, C_c1, -, -, -⟩ := id C_1.out
  go_wp2_with fail
  go_ret
  exact ⟨rfl, KW_1.out⟩
set_option maxHeartbeats 4000000 in
theorem make_law_s0 {w : World} {s t : Bool} {a b : Option Addr} {n c m g : Nat} {lx ly : List Nat} (x : Int) (hx : Rd w a n c lx) (hy : Rd w b m g ly) (hT : Tab w) (hx1 : -9223372036854775808 ≤ x) (hx2 : x ≤ 9223372036854775807) (f1 : n ≤ 3) (f2 : m ≤ 3) (h0 : nv ly = 0) : Calls Tryd.prog 4 #[.agg #[.bool s, .slice a n c], .agg #[.bool t, .slice b m g], .int .i64 x] w (BPost true w) := by
  obtain ⟨B_0, C_0, KW_0⟩ := opi2 w s a n c t b m g
  have T_0 := Lib.hid (hT.keep KW_0.out)
  have AW := Lib.hid (fun w1 (hT1 : Tab w1) => awake_c w1 hT1)
  have q1 := hx.le_cap
  have q2 := hx.cap_le
  have q3 := hy.le_cap
  have q4 := hy.cap_le
  have d1 : decide ((3 : Int) < (n : Int)) = false := decide_eq_false (by omega)
  have d2 : decide ((3 : Int) < (m : Int)) = false := decide_eq_false (by omega)
  have lX : lx.length ≤ 3 := by rw [hx.len_eq]; exact f1
  have lY : ly.length ≤ 3 := by rw [hy.len_eq]; exact f2
  have X_0 := Lib.hid ((hx.toNm rfl lX).keep KW_0.out)
  have Y_0 := Lib.hid ((hy.toNm rfl lY).keep KW_0.out)
  have MK := Lib.hid (fun w1 (h : Nm w1 (.slice a n c) (nv lx) 3) (h' : Nm w1 (.slice b m g) (nv ly) 3) => make_0 (s := s) (t := t) h h' (by omega) h0)
  have RM := Lib.hid (fun w1 (h : Nm w1 (.slice a n c) (nv lx) 3) (h' : Nm w1 (.slice b m g) (nv ly) 3) => rmakeq_0 (s := s) (t := t) h h' (by omega) h0)
  have F6 := Lib.hid (fun w1 (hT1 : Tab w1) => qfrac_1 x 6 w1 hx1 hx2 (by omega) (by omega) hT1 (by decide))
  have F0 := Lib.hid (fun w1 => qfrac_0 x 0 w1 hx1 hx2 (by omega) (by omega) (by decide))
  have OF := Lib.hid (fun w1 => qof_c 6 w1 (by omega) (by omega))
  have OX := Lib.hid (fun w1 => qof_c x w1 hx1 hx2)
  have RX := Lib.hid (fun w1 => rqof_c x w1 hx1 hx2)
  have hB : BB ^ 3 = 79228162514264337593543950336 := by decide
  have rbx : Rb (x : Rat) 3 := rb_int (by rw [hB]; omega) (by omega)
  have rb6 : Rb ((6 : Int) : Rat) 3 := rb_int (by decide) (by omega)
  have rbd : Rb ((x : Rat) / ((6 : Int) : Rat)) 6 := by rw [Rat.div_def]; exact (rbx.mul (rb6.inv (by omega)) (by omega)).up (by omega)
  have h6 : ((6 : Int) : Rat) ≠ 0 := by decide
  have ML := Lib.hid (fun w1 u v (hu : Cr w1 u ((x : Rat) / ((6 : Int) : Rat))) (hv : Cr w1 v ((6 : Int) : Rat)) (hT1 : Tab w1) => qmul_c (hu.ra rbd) (hv.ra (rb6.up (j := 6) (by omega))) (by omega) (by omega) hT1)
  rw [rat_div_mul (x : Rat) h6] at ML
  obtain ⟨k6, hk6⟩ : ∃ q : Rat, (x : Rat) / ((6 : Int) : Rat) = q := ⟨_, rfl⟩
  rw [hk6] at F6 ML
  obtain ⟨xr, hxr⟩ : ∃ q : Rat, (x : Rat) = q := ⟨_, rfl⟩
  rw [hxr] at OX RX ML
  clear hx hy hT f1 f2 h0 lX lY hB rbx rb6 rbd h6 hk6 hxr hx1 hx2
  go_enter Tryd.func4, Tryd.ntmps4
  obtain ⟨B_c0, B_c1, -, -, -⟩ := id B_0.out
  obtain ⟨C_c0, C_c1, -, -, -⟩ := id C_0.out
  go_wp2_with fail
  refine Calls.mono (AW.out _ T_0.out) ?_
  rintro e w1 ⟨rfl, k1⟩
  clear B_c0 B_c1 C_c0 C_c1
  have T_1 := Lib.hid (T_0.out.keep k1)
  have X_1 := Lib.hid (X_0.out.keep k1)
  have Y_1 := Lib.hid (Y_0.out.keep k1)
  have B_1 := Lib.hid (B_0.out.keep k1)
  have C_1 := Lib.hid (C_0.out.keep k1)
  have KW_1 := Lib.hid (KW_0.out.trans k1)
  clear k1 T_0 X_0 Y_0 B_0 C_0 KW_0
  obtain ⟨B_c0, B_c1, -, -, -⟩ := id B_1.out
  obtain ⟨C_c0, C_c1, -, -, -⟩ := id C_1.out
  go_wp2_with fail
  refine Calls.mono (MK.out _ X_1.out Y_1.out) ?_
  rintro e w2 ⟨vS, rfl, hS, k2⟩
  clear B_c0 B_c1 C_c0 C_c1
  have T_2 := Lib.hid (T_1.out.keep k2)
  have X_2 := Lib.hid (X_1.out.keep k2)
  have Y_2 := Lib.hid (Y_1.out.keep k2)
  have B_2 := Lib.hid (B_1.out.keep k2)
  have C_2 := Lib.hid (C_1.out.keep k2)
  have CS_2 := Lib.hid hS
  have KW_2 := Lib.hid (KW_1.out.trans k2)
  clear k2 T_1 X_1 Y_1 B_1 C_1 hS KW_1
  obtain ⟨aS, nS, cS, a'S, n'S, c'S, rfl, -⟩ := Cr.form CS_2.out
  have CS_2_x := CS_2.out
  obtain ⟨bS, hbS⟩ : ∃ b, decide (((0 : Rat)).num < 0) = b := ⟨_, rfl⟩
  rw [hbS] at CS_2_x ⊢
  have CS_2_y := Lib.hid CS_2_x
  clear CS_2_x hbS CS_2
  have T_3 := Lib.hid (T_2.out.keep ((Keep.refl _).alloc (.cells #[.bool bS, .slice aS nS cS, .slice a'S n'S c'S] 25)))
  have X_3 := Lib.hid (X_2.out.keep ((Keep.refl _).alloc (.cells #[.bool bS, .slice aS nS cS, .slice a'S n'S c'S] 25)))
  have Y_3 := Lib.hid (Y_2.out.keep ((Keep.refl _).alloc (.cells #[.bool bS, .slice aS nS cS, .slice a'S n'S c'S] 25)))
  have B_3 := Lib.hid (B_2.out.keep ((Keep.refl _).alloc (.cells #[.bool bS, .slice aS nS cS, .slice a'S n'S c'S] 25)))
  have C_3 := Lib.hid (C_2.out.keep ((Keep.refl _).alloc (.cells #[.bool bS, .slice aS nS cS, .slice a'S n'S c'S] 25)))
  have CS_3 := Lib.hid (CS_2_y.out.keep ((Keep.refl _).alloc (.cells #[.bool bS, .slice aS nS cS, .slice a'S n'S c'S] 25)))
  have KW_3 := Lib.hid (KW_2.out.trans ((Keep.refl _).alloc (.cells #[.bool bS, .slice aS nS cS, .slice a'S n'S c'S] 25)))
  clear T_2 X_2 Y_2 B_2 C_2 CS_2_y KW_2
  have S_3 := Lib.hid (QBox.new w2 bS aS nS cS a'S n'S c'S)
  obtain ⟨B_c0, B_c1, -, -, -⟩ := id B_3.out
  obtain ⟨C_c0, C_c1, -, -, -⟩ := id C_3.out
  obtain ⟨S_c0, S_c1, S_c2, -, -, -, -⟩ := id S_3.out
  go_wp2_with fail
  refine Calls.mono (RM.out _ X_3.out Y_3.out) ?_
  rintro e w4 ⟨vU, rfl, hS, k4⟩
  clear B_c0 B_c1 C_c0 C_c1 S_c0 S_c1 S_c2
  have T_4 := Lib.hid (T_3.out.keep k4)
  have X_4 := Lib.hid (X_3.out.keep k4)
  have Y_4 := Lib.hid (Y_3.out.keep k4)
  have B_4 := Lib.hid (B_3.out.keep k4)
  have C_4 := Lib.hid (C_3.out.keep k4)
  have CS_4 := Lib.hid (CS_3.out.keep k4)
  have S_4 := Lib.hid (S_3.out.keep k4)
  have CU_4 := Lib.hid hS
  have KW_4 := Lib.hid (KW_3.out.trans k4)
  clear k4 T_3 X_3 Y_3 B_3 C_3 CS_3 S_3 hS KW_3
  obtain ⟨aU, nU, cU, a'U, n'U, c'U, rfl, -⟩ := Cr.form CU_4.out
  have CU_4_x := CU_4.out
  obtain ⟨bU, hbU⟩ : ∃ b, decide (((0 : Rat)).num < 0) = b := ⟨_, rfl⟩
  rw [hbU] at CU_4_x ⊢
  have CU_4_y := Lib.hid CU_4_x
  clear CU_4_x hbU CU_4
  have T_5 := Lib.hid (T_4.out.keep ((Keep.refl _).alloc (.cells #[.bool bU, .slice aU nU cU, .slice a'U n'U c'U] 25)))
  have X_5 := Lib.hid (X_4.out.keep ((Keep.refl _).alloc (.cells #[.bool bU, .slice aU nU cU, .slice a'U n'U c'U] 25)))
  have Y_5 := Lib.hid (Y_4.out.keep ((Keep.refl _).alloc (.cells #[.bool bU, .slice aU nU cU, .slice a'U n'U c'U] 25)))
  have B_5 := Lib.hid (B_4.out.keep ((Keep.refl _).alloc (.cells #[.bool bU, .slice aU nU cU, .slice a'U n'U c'U] 25)))
  have C_5 := Lib.hid (C_4.out.keep ((Keep.refl _).alloc (.cells #[.bool bU, .slice aU nU cU, .slice a'U n'U c'U] 25)))
  have CS_5 := Lib.hid (CS_4.out.keep ((Keep.refl _).alloc (.cells #[.bool bU, .slice aU nU cU, .slice a'U n'U c'U] 25)))
  have S_5 := Lib.hid (S_4.out.keep ((Keep.refl _).alloc (.cells #[.bool bU, .slice aU nU cU, .slice a'U n'U c'U] 25)))
  have CU_5 := Lib.hid (CU_4_y.out.keep ((Keep.refl _).alloc (.cells #[.bool bU, .slice aU nU cU, .slice a'U n'U c'U] 25)))
  have KW_5 := Lib.hid (KW_4.out.trans ((Keep.refl _).alloc (.cells #[.bool bU, .slice aU nU cU, .slice a'U n'U c'U] 25)))
  clear T_4 X_4 Y_4 B_4 C_4 CS_4 S_4 CU_4_y KW_4
  have U_5 := Lib.hid (QBox.new w4 bU aU nU cU a'U n'U c'U)
  obtain ⟨B_c0, B_c1, -, -, -⟩ := id B_5.out
  obtain ⟨C_c0, C_c1, -, -, -⟩ := id C_5.out
  obtain ⟨S_c0, S_c1, S_c2, -, -, -, -⟩ := id S_5.out
  obtain ⟨U_c0, U_c1, U_c2, -, -, -, -⟩ := id U_5.out
  go_wp2_with fail
  refine Calls.mono (F6.out _ T_5.out) ?_
  rintro e w6 ⟨vV, rfl, hS, k6⟩
  clear B_c0 B_c1 C_c0 C_c1 S_c0 S_c1 S_c2 U_c0 U_c1 U_c2
  have T_6 := Lib.hid (T_5.out.keep k6)
  have X_6 := Lib.hid (X_5.out.keep k6)
  have Y_6 := Lib.hid (Y_5.out.keep k6)
  have B_6 := Lib.hid (B_5.out.keep k6)
  have C_6 := Lib.hid (C_5.out.keep k6)
  have CS_6 := Lib.hid (CS_5.out.keep k6)
  have S_6 := Lib.hid (S_5.out.keep k6)
  have CU_6 := Lib.hid (CU_5.out.keep k6)
  have U_6 := Lib.hid (U_5.out.keep k6)
  have CV_6 := Lib.hid hS
  have KW_6 := Lib.hid (KW_5.out.trans k6)
  clear k6 T_5 X_5 Y_5 B_5 C_5 CS_5 S_5 CU_5 U_5 hS KW_5
  obtain ⟨aV, nV, cV, a'V, n'V, c'V, rfl, -⟩ := Cr.form CV_6.out
  have CV_6_x := CV_6.out
  obtain ⟨bV, hbV⟩ : ∃ b, decide ((k6).num < 0) = b := ⟨_, rfl⟩
  rw [hbV] at CV_6_x ⊢
  have CV_6_y := Lib.hid CV_6_x
  clear CV_6_x hbV CV_6
  have T_7 := Lib.hid (T_6.out.keep ((Keep.refl _).alloc (.cells #[.bool bV, .slice aV nV cV, .slice a'V n'V c'V] 25)))
  have X_7 := Lib.hid (X_6.out.keep ((Keep.refl _).alloc (.cells #[.bool bV, .slice aV nV cV, .slice a'V n'V c'V] 25)))
  have Y_7 := Lib.hid (Y_6.out.keep ((Keep.refl _).alloc (.cells #[.bool bV, .slice aV nV cV, .slice a'V n'V c'V] 25)))
  have B_7 := Lib.hid (B_6.out.keep ((Keep.refl _).alloc (.cells #[.bool bV, .slice aV nV cV, .slice a'V n'V c'V] 25)))
  have C_7 := Lib.hid (C_6.out.keep ((Keep.refl _).alloc (.cells #[.bool bV, .slice aV nV cV, .slice a'V n'V c'V] 25)))
  have CS_7 := Lib.hid (CS_6.out.keep ((Keep.refl _).alloc (.cells #[.bool bV, .slice aV nV cV, .slice a'V n'V c'V] 25)))
  have S_7 := Lib.hid (S_6.out.keep ((Keep.refl _).alloc (.cells #[.bool bV, .slice aV nV cV, .slice a'V n'V c'V] 25)))
  have CU_7 := Lib.hid (CU_6.out.keep ((Keep.refl _).alloc (.cells #[.bool bV, .slice aV nV cV, .slice a'V n'V c'V] 25)))
  have U_7 := Lib.hid (U_6.out.keep ((Keep.refl _).alloc (.cells #[.bool bV, .slice aV nV cV, .slice a'V n'V c'V] 25)))
  have CV_7 := Lib.hid (CV_6_y.out.keep ((Keep.refl _).alloc (.cells #[.bool bV, .slice aV nV cV, .slice a'V n'V c'V] 25)))
  have KW_7 := Lib.hid (KW_6.out.trans ((Keep.refl _).alloc (.cells #[.bool bV, .slice aV nV cV, .slice a'V n'V c'V] 25)))
  clear T_6 X_6 Y_6 B_6 C_6 CS_6 S_6 CU_6 U_6 CV_6_y KW_6
  have V_7 := Lib.hid (QBox.new w6 bV aV nV cV a'V n'V c'V)
  obtain ⟨B_c0, B_c1, -, -, -⟩ := id B_7.out
  obtain ⟨C_c0, C_c1, -, -, -⟩ := id C_7.out
  obtain ⟨S_c0, S_c1, S_c2, -, -, -, -⟩ := id S_7.out
  obtain ⟨U_c0, U_c1, U_c2, -, -, -, -⟩ := id U_7.out
  obtain ⟨V_c0, V_c1, V_c2, -, -, -, -⟩ := id V_7.out
  go_wp2_with fail
  refine Calls.mono (F0.out _) ?_
  rintro e w8 ⟨vG, rfl, hS, k8⟩
  clear B_c0 B_c1 C_c0 C_c1 S_c0 S_c1 S_c2 U_c0 U_c1 U_c2 V_c0 V_c1 V_c2
  have T_8 := Lib.hid (T_7.out.keep k8)
  have X_8 := Lib.hid (X_7.out.keep k8)
  have Y_8 := Lib.hid (Y_7.out.keep k8)
  have B_8 := Lib.hid (B_7.out.keep k8)
  have C_8 := Lib.hid (C_7.out.keep k8)
  have CS_8 := Lib.hid (CS_7.out.keep k8)
  have S_8 := Lib.hid (S_7.out.keep k8)
  have CU_8 := Lib.hid (CU_7.out.keep k8)
  have U_8 := Lib.hid (U_7.out.keep k8)
  have CV_8 := Lib.hid (CV_7.out.keep k8)
  have V_8 := Lib.hid (V_7.out.keep k8)
  have CG_8 := Lib.hid hS
  have KW_8 := Lib.hid (KW_7.out.trans k8)
  clear k8 T_7 X_7 Y_7 B_7 C_7 CS_7 S_7 CU_7 U_7 CV_7 V_7 hS KW_7
  obtain ⟨aG, nG, cG, a'G, n'G, c'G, rfl, -⟩ := Cr.form CG_8.out
  have CG_8_x := CG_8.out
  obtain ⟨bG, hbG⟩ : ∃ b, decide (((0 : Rat)).num < 0) = b := ⟨_, rfl⟩
  rw [hbG] at CG_8_x ⊢
  have CG_8_y := Lib.hid CG_8_x
  clear CG_8_x hbG CG_8
  have T_9 := Lib.hid (T_8.out.keep ((Keep.refl _).alloc (.cells #[.bool bG, .slice aG nG cG, .slice a'G n'G c'G] 25)))
  have X_9 := Lib.hid (X_8.out.keep ((Keep.refl _).alloc (.cells #[.bool bG, .slice aG nG cG, .slice a'G n'G c'G] 25)))
  have Y_9 := Lib.hid (Y_8.out.keep ((Keep.refl _).alloc (.cells #[.bool bG, .slice aG nG cG, .slice a'G n'G c'G] 25)))
  have B_9 := Lib.hid (B_8.out.keep ((Keep.refl _).alloc (.cells #[.bool bG, .slice aG nG cG, .slice a'G n'G c'G] 25)))
  have C_9 := Lib.hid (C_8.out.keep ((Keep.refl _).alloc (.cells #[.bool bG, .slice aG nG cG, .slice a'G n'G c'G] 25)))
  have CS_9 := Lib.hid (CS_8.out.keep ((Keep.refl _).alloc (.cells #[.bool bG, .slice aG nG cG, .slice a'G n'G c'G] 25)))
  have S_9 := Lib.hid (S_8.out.keep ((Keep.refl _).alloc (.cells #[.bool bG, .slice aG nG cG, .slice a'G n'G c'G] 25)))
  have CU_9 := Lib.hid (CU_8.out.keep ((Keep.refl _).alloc (.cells #[.bool bG, .slice aG nG cG, .slice a'G n'G c'G] 25)))
  have U_9 := Lib.hid (U_8.out.keep ((Keep.refl _).alloc (.cells #[.bool bG, .slice aG nG cG, .slice a'G n'G c'G] 25)))
  have CV_9 := Lib.hid (CV_8.out.keep ((Keep.refl _).alloc (.cells #[.bool bG, .slice aG nG cG, .slice a'G n'G c'G] 25)))
  have V_9 := Lib.hid (V_8.out.keep ((Keep.refl _).alloc (.cells #[.bool bG, .slice aG nG cG, .slice a'G n'G c'G] 25)))
  have CG_9 := Lib.hid (CG_8_y.out.keep ((Keep.refl _).alloc (.cells #[.bool bG, .slice aG nG cG, .slice a'G n'G c'G] 25)))
  have KW_9 := Lib.hid (KW_8.out.trans ((Keep.refl _).alloc (.cells #[.bool bG, .slice aG nG cG, .slice a'G n'G c'G] 25)))
  clear T_8 X_8 Y_8 B_8 C_8 CS_8 S_8 CU_8 U_8 CV_8 V_8 CG_8_y KW_8
  have G_9 := Lib.hid (QBox.new w8 bG aG nG cG a'G n'G c'G)
  clear AW MK RM F6 F0
  go_upto_region 9 with fail
  go_cut [15] (fun sv wc => PBoxQ (w8.alloc (.cells #[.bool bG, .slice aG nG cG, .slice a'G n'G c'G] 25)) 0 xr sv wc)
  case first =>
    have SK : Hid (∀ wk : World, Keep ((w8.alloc (.cells #[.bool bG, .slice aG nG cG, .slice a'G n'G c'G] 25))) wk → wk.cell? ⟨w6.heap.size, 0, none⟩ = some (.bool bV) ∧ wk.cell? ⟨w6.heap.size, 1, none⟩ = some (.slice aV nV cV) ∧ wk.cell? ⟨w6.heap.size, 2, none⟩ = some (.slice a'V n'V c'V)) := Lib.hid (fun wk h => ⟨(V_9.out.keep h).c0, (V_9.out.keep h).c1, (V_9.out.keep h).c2⟩)
    have kS_0 : Keep ((w8.alloc (.cells #[.bool bG, .slice aG nG cG, .slice a'G n'G c'G] 25))) ((w8.alloc (.cells #[.bool bG, .slice aG nG cG, .slice a'G n'G c'G] 25)).drew) := (Keep.refl _).drew
    have kS_1 : Keep ((w8.alloc (.cells #[.bool bG, .slice aG nG cG, .slice a'G n'G c'G] 25))) (((w8.alloc (.cells #[.bool bG, .slice aG nG cG, .slice a'G n'G c'G] 25)).alloc (.cells #[.bool false, .slice none 0 0, .slice none 0 0] 25)).drew) := ((Keep.alloc (Keep.refl _) _)).drew
    obtain ⟨cz_0, cz_1, cz_2⟩ := SK.out _ kS_0
    go_wp2
    go_region_held3 (fun w' => w'.cell? ⟨w6.heap.size, 0, none⟩ = some (.bool bV) ∧ w'.cell? ⟨w6.heap.size, 1, none⟩ = some (.slice aV nV cV) ∧ w'.cell? ⟨w6.heap.size, 2, none⟩ = some (.slice a'V n'V c'V)) (first | with_reducible exact SK.out _ kS_0 | with_reducible exact SK.out _ kS_1 | with_reducible exact SK.out _ hW_1 | with_reducible exact SK.out _ (Keep.alloc hW_1 _) | with_reducible exact SK.out _ hW_2 | with_reducible exact SK.out _ (Keep.alloc hW_2 _) | (refine SK.out _ ?_; (repeat' (first | exact Keep.refl _ | assumption | refine Keep.alloc ?_ _ | refine Keep.drew ?_ | refine keep_set ?_ (by first | exact Nat.le_refl _ | assumption | (simp <;> omega)) _ | (refine Keep.trans ?_ (by assumption))))) | go_keep)
      (first
        | (go_at_call 30; ((with_reducible refine Calls.mono (OF.out _) ?_); rintro e v1 ⟨vO, rfl, hO, k1⟩; (have hW_1 : Keep ((w8.alloc (.cells #[.bool bG, .slice aG nG cG, .slice a'G n'G c'G] 25))) v1 := Keep.trans kS_0 k1); (have O_r := Lib.hid hO); clear hO; (have mk_1_0 := trivial)))
        | (go_at_call 30; ((with_reducible refine Calls.mono (OF.out _) ?_); rintro e v1 ⟨vO, rfl, hO, k1⟩; (have hW_1 : Keep ((w8.alloc (.cells #[.bool bG, .slice aG nG cG, .slice a'G n'G c'G] 25))) v1 := Keep.trans kS_1 k1); (have O_r := Lib.hid hO); clear hO; (have mk_1_1 := trivial); (have NB_1 := Lib.hid (((QBox.new (w8.alloc (.cells #[.bool bG, .slice aG nG cG, .slice a'G n'G c'G] 25)) false none 0 0 none 0 0).at (g' := w8.heap.size + 1) (by first | rfl | simp)).keep (show Keep (((w8.alloc (.cells #[.bool bG, .slice aG nG cG, .slice a'G n'G c'G] 25)).alloc (.cells #[.bool false, .slice none 0 0, .slice none 0 0] 25))) v1 from Keep.trans (Keep.drew (Keep.refl _)) k1)))))
        | (go_at_call 29; ((have mark := mk_1_0); (with_reducible refine Calls.mono (ML.out _ _ _ (CV_9.out.keep hW_1) (O_r.out.keep (Keep.refl _)) (T_9.out.keep hW_1)) ?_); rintro e v2 ⟨vQ, rfl, hq, k2⟩; (have hW_2 : Keep ((w8.alloc (.cells #[.bool bG, .slice aG nG cG, .slice a'G n'G c'G] 25))) v2 := Keep.trans hW_1 k2); (have hc_1_2 : Keep v1 v2 := Keep.trans (Keep.refl _) k2); (have Q_r := Lib.hid hq); clear hq; (have mk_2_00 := trivial); obtain ⟨za, zn, zc, za', zn', zc', rfl, -⟩ := Cr.form Q_r.out; (obtain ⟨bz, hbz⟩ : ∃ b, decide ((xr).num < 0) = b := ⟨_, rfl⟩); (have Q2 := Q_r.out); rw [hbz] at Q2 ⊢; (have Q3 := Lib.hid Q2); clear Q2 hbz Q_r; (have hlo : 0 ≤ v2.heap.size := Nat.zero_le _); (have FIN := Lib.hid (PBoxQ.post Q3.out hlo hW_2))))
        | (go_at_call 29; ((have mark := mk_1_0); (with_reducible refine Calls.mono (ML.out _ _ _ (CV_9.out.keep (Keep.alloc hW_1 _)) (O_r.out.keep (Keep.alloc (Keep.refl _) _)) (T_9.out.keep (Keep.alloc hW_1 _))) ?_); rintro e v2 ⟨vQ, rfl, hq, k2⟩; (have hW_2 : Keep ((w8.alloc (.cells #[.bool bG, .slice aG nG cG, .slice a'G n'G c'G] 25))) v2 := Keep.trans (Keep.alloc hW_1 _) k2); (have hc_1_2 : Keep v1 v2 := Keep.trans (Keep.alloc (Keep.refl _) _) k2); (have Q_r := Lib.hid hq); clear hq; (have mk_2_01 := trivial); (have NB_2 := Lib.hid (((QBox.new v1 false none 0 0 none 0 0).at (g' := v1.heap.size) (by first | rfl | simp)).keep (show Keep ((v1.alloc (.cells #[.bool false, .slice none 0 0, .slice none 0 0] 25))) v2 from Keep.trans (Keep.refl _) k2))); obtain ⟨za, zn, zc, za', zn', zc', rfl, -⟩ := Cr.form Q_r.out; (obtain ⟨bz, hbz⟩ : ∃ b, decide ((xr).num < 0) = b := ⟨_, rfl⟩); (have Q2 := Q_r.out); rw [hbz] at Q2 ⊢; (have Q3 := Lib.hid Q2); clear Q2 hbz Q_r; (have hlo : 0 ≤ v1.heap.size := Nat.zero_le _); (have hgw : ((w8.alloc (.cells #[.bool bG, .slice aG nG cG, .slice a'G n'G c'G] 25))).heap.size ≤ v1.heap.size := (by have h9 := Below.size hW_1; exact h9)); (obtain ⟨z0, z1, z2, f0, f1, f2, -⟩ := id NB_2.out); (have FIN := Lib.hid (PBoxQ.pre Q3.out NB_2.out hlo hgw hW_2))))
        | (go_at_call 29; ((have mark := mk_1_1); (with_reducible refine Calls.mono (ML.out _ _ _ (CV_9.out.keep hW_1) (O_r.out.keep (Keep.refl _)) (T_9.out.keep hW_1)) ?_); rintro e v2 ⟨vQ, rfl, hq, k2⟩; (have hW_2 : Keep ((w8.alloc (.cells #[.bool bG, .slice aG nG cG, .slice a'G n'G c'G] 25))) v2 := Keep.trans hW_1 k2); (have hc_1_2 : Keep v1 v2 := Keep.trans (Keep.refl _) k2); (have Q_r := Lib.hid hq); clear hq; (have mk_2_10 := trivial); (have NB_2 := Lib.hid (NB_1.out.keep (hc_1_2))); obtain ⟨za, zn, zc, za', zn', zc', rfl, -⟩ := Cr.form Q_r.out; (obtain ⟨bz, hbz⟩ : ∃ b, decide ((xr).num < 0) = b := ⟨_, rfl⟩); (have Q2 := Q_r.out); rw [hbz] at Q2 ⊢; (have Q3 := Lib.hid Q2); clear Q2 hbz Q_r; (have hlo : 0 ≤ w8.heap.size + 1 := Nat.zero_le _); (have hgw : ((w8.alloc (.cells #[.bool bG, .slice aG nG cG, .slice a'G n'G c'G] 25))).heap.size ≤ w8.heap.size + 1 := (by simp)); (obtain ⟨z0, z1, z2, f0, f1, f2, -⟩ := id NB_2.out); (have FIN := Lib.hid (PBoxQ.pre Q3.out NB_2.out hlo hgw hW_2)))))
    all_goals (go_wp2_with fail; go_meet; exact FIN.out)
  case rest =>
    obtain ⟨gNX, bNX, aNX, nNX, cNX, a'NX, n'NX, c'NX, rfl, -, hbx, hcr, kx⟩ := hcut
    obtain ⟨wx15, rfl⟩ : ∃ x : World, x = wc := ⟨_, rfl⟩
    have T_10 := Lib.hid (T_9.out.keep kx)
    have X_10 := Lib.hid (X_9.out.keep kx)
    have Y_10 := Lib.hid (Y_9.out.keep kx)
    have B_10 := Lib.hid (B_9.out.keep kx)
    have C_10 := Lib.hid (C_9.out.keep kx)
    have CS_10 := Lib.hid (CS_9.out.keep kx)
    have S_10 := Lib.hid (S_9.out.keep kx)
    have CU_10 := Lib.hid (CU_9.out.keep kx)
    have U_10 := Lib.hid (U_9.out.keep kx)
    have CV_10 := Lib.hid (CV_9.out.keep kx)
    have V_10 := Lib.hid (V_9.out.keep kx)
    have CG_10 := Lib.hid (CG_9.out.keep kx)
    have G_10 := Lib.hid (G_9.out.keep kx)
    have NX_10 := Lib.hid hbx
    have CNX_10 := Lib.hid hcr
    have KW_10 := Lib.hid (KW_9.out.trans kx)
    clear kx T_9 X_9 Y_9 B_9 C_9 CS_9 S_9 CU_9 U_9 CV_9 V_9 CG_9 G_9 hbx hcr KW_9
    clear OF ML
    have T_11 := Lib.hid (T_10.out.keep (keep_drew _))
    clear T_10
    have X_11 := Lib.hid (X_10.out.keep (keep_drew _))
    clear X_10
    have Y_11 := Lib.hid (Y_10.out.keep (keep_drew _))
    clear Y_10
    have B_11 := Lib.hid (B_10.out.keep (keep_drew _))
    clear B_10
    have C_11 := Lib.hid (C_10.out.keep (keep_drew _))
    clear C_10
    have CS_11 := Lib.hid (CS_10.out.keep (keep_drew _))
    clear CS_10
    have S_11 := Lib.hid (S_10.out.keep (keep_drew _))
    clear S_10
    have CU_11 := Lib.hid (CU_10.out.keep (keep_drew _))
    clear CU_10
    have U_11 := Lib.hid (U_10.out.keep (keep_drew _))
    clear U_10
    have CV_11 := Lib.hid (CV_10.out.keep (keep_drew _))
    clear CV_10
    have V_11 := Lib.hid (V_10.out.keep (keep_drew _))
    clear V_10
    have CG_11 := Lib.hid (CG_10.out.keep (keep_drew _))
    clear CG_10
    have G_11 := Lib.hid (G_10.out.keep (keep_drew _))
    clear G_10
    have NX_11 := Lib.hid (NX_10.out.keep (keep_drew _))
    clear NX_10
    have CNX_11 := Lib.hid (CNX_10.out.keep (keep_drew _))
    clear CNX_10
    have KW_11 := Lib.hid (KW_10.out.trans (keep_drew _))
    clear KW_10
    obtain ⟨cS_11_0, cS_11_1, cS_11_2, -, -, -, -⟩ := id S_11.out
    obtain ⟨cU_11_0, cU_11_1, cU_11_2, -, -, -, -⟩ := id U_11.out
    obtain ⟨cNX_11_0, cNX_11_1, cNX_11_2, -, -, -, -⟩ := id NX_11.out
    go_wp2
    go_region_held3 (fun w' => w'.cell? ⟨w2.heap.size, 0, none⟩ = some (.bool bS) ∧ w'.cell? ⟨w2.heap.size, 1, none⟩ = some (.slice aS nS cS) ∧ w'.cell? ⟨w2.heap.size, 2, none⟩ = some (.slice a'S n'S c'S) ∧ w'.cell? ⟨w4.heap.size, 0, none⟩ = some (.bool bU) ∧ w'.cell? ⟨w4.heap.size, 1, none⟩ = some (.slice aU nU cU) ∧ w'.cell? ⟨w4.heap.size, 2, none⟩ = some (.slice a'U n'U c'U) ∧ w'.cell? ⟨gNX, 0, none⟩ = some (.bool bNX) ∧ w'.cell? ⟨gNX, 1, none⟩ = some (.slice aNX nNX cNX) ∧ w'.cell? ⟨gNX, 2, none⟩ = some (.slice a'NX n'NX c'NX)) (first | exact ⟨cS_17_0, cS_17_1, cS_17_2, cU_17_0, cU_17_1, cU_17_2, cNX_17_0, cNX_17_1, cNX_17_2⟩ | exact ⟨cS_16_0, cS_16_1, cS_16_2, cU_16_0, cU_16_1, cU_16_2, cNX_16_0, cNX_16_1, cNX_16_2⟩ | exact ⟨cS_15_0, cS_15_1, cS_15_2, cU_15_0, cU_15_1, cU_15_2, cNX_15_0, cNX_15_1, cNX_15_2⟩ | exact ⟨cS_14_0, cS_14_1, cS_14_2, cU_14_0, cU_14_1, cU_14_2, cNX_14_0, cNX_14_1, cNX_14_2⟩ | exact ⟨cS_13_0, cS_13_1, cS_13_2, cU_13_0, cU_13_1, cU_13_2, cNX_13_0, cNX_13_1, cNX_13_2⟩ | exact ⟨cS_12_0, cS_12_1, cS_12_2, cU_12_0, cU_12_1, cU_12_2, cNX_12_0, cNX_12_1, cNX_12_2⟩ | exact ⟨cS_11_0, cS_11_1, cS_11_2, cU_11_0, cU_11_1, cU_11_2, cNX_11_0, cNX_11_1, cNX_11_2⟩ | go_keep)
      (first
        | (go_at_call 14; ((with_reducible refine Calls.mono (qsame_t CNX_16.out F_16.out) ?_); rintro e w17 ⟨rfl, k17⟩; have T_17 := Lib.hid (T_16.out.keep k17); have X_17 := Lib.hid (X_16.out.keep k17); have Y_17 := Lib.hid (Y_16.out.keep k17); have B_17 := Lib.hid (B_16.out.keep k17); have C_17 := Lib.hid (C_16.out.keep k17); have CS_17 := Lib.hid (CS_16.out.keep k17); have S_17 := Lib.hid (S_16.out.keep k17); have CU_17 := Lib.hid (CU_16.out.keep k17); have U_17 := Lib.hid (U_16.out.keep k17); have CV_17 := Lib.hid (CV_16.out.keep k17); have V_17 := Lib.hid (V_16.out.keep k17); have CG_17 := Lib.hid (CG_16.out.keep k17); have G_17 := Lib.hid (G_16.out.keep k17); have NX_17 := Lib.hid (NX_16.out.keep k17); have CNX_17 := Lib.hid (CNX_16.out.keep k17); have A_17 := Lib.hid (A_16.out.keep k17); have E_17 := Lib.hid (E_16.out.keep k17); have F_17 := Lib.hid (F_16.out.keep k17); have KW_17 := Lib.hid (KW_16.out.trans k17); obtain ⟨cS_17_0, cS_17_1, cS_17_2, -, -, -, -⟩ := id S_17.out; obtain ⟨cU_17_0, cU_17_1, cU_17_2, -, -, -, -⟩ := id U_17.out; obtain ⟨cNX_17_0, cNX_17_1, cNX_17_2, -, -, -, -⟩ := id NX_17.out; clear k17))
        | (go_at_call 31; ((with_reducible refine Calls.mono (RX.out _) ?_); rintro e w16 ⟨x3, rfl, hC, k16⟩; have T_16 := Lib.hid (T_15.out.keep k16); have X_16 := Lib.hid (X_15.out.keep k16); have Y_16 := Lib.hid (Y_15.out.keep k16); have B_16 := Lib.hid (B_15.out.keep k16); have C_16 := Lib.hid (C_15.out.keep k16); have CS_16 := Lib.hid (CS_15.out.keep k16); have S_16 := Lib.hid (S_15.out.keep k16); have CU_16 := Lib.hid (CU_15.out.keep k16); have U_16 := Lib.hid (U_15.out.keep k16); have CV_16 := Lib.hid (CV_15.out.keep k16); have V_16 := Lib.hid (V_15.out.keep k16); have CG_16 := Lib.hid (CG_15.out.keep k16); have G_16 := Lib.hid (G_15.out.keep k16); have NX_16 := Lib.hid (NX_15.out.keep k16); have CNX_16 := Lib.hid (CNX_15.out.keep k16); have A_16 := Lib.hid (A_15.out.keep k16); have E_16 := Lib.hid (E_15.out.keep k16); have F_16 := Lib.hid hC; clear hC; have KW_16 := Lib.hid (KW_15.out.trans k16); obtain ⟨cS_16_0, cS_16_1, cS_16_2, -, -, -, -⟩ := id S_16.out; obtain ⟨cU_16_0, cU_16_1, cU_16_2, -, -, -, -⟩ := id U_16.out; obtain ⟨cNX_16_0, cNX_16_1, cNX_16_2, -, -, -, -⟩ := id NX_16.out; clear k16))
        | (go_at_call 14; ((with_reducible refine Calls.mono (qsame_t A_14.out E_14.out) ?_); rintro e w15 ⟨rfl, k15⟩; have T_15 := Lib.hid (T_14.out.keep k15); have X_15 := Lib.hid (X_14.out.keep k15); have Y_15 := Lib.hid (Y_14.out.keep k15); have B_15 := Lib.hid (B_14.out.keep k15); have C_15 := Lib.hid (C_14.out.keep k15); have CS_15 := Lib.hid (CS_14.out.keep k15); have S_15 := Lib.hid (S_14.out.keep k15); have CU_15 := Lib.hid (CU_14.out.keep k15); have U_15 := Lib.hid (U_14.out.keep k15); have CV_15 := Lib.hid (CV_14.out.keep k15); have V_15 := Lib.hid (V_14.out.keep k15); have CG_15 := Lib.hid (CG_14.out.keep k15); have G_15 := Lib.hid (G_14.out.keep k15); have NX_15 := Lib.hid (NX_14.out.keep k15); have CNX_15 := Lib.hid (CNX_14.out.keep k15); have A_15 := Lib.hid (A_14.out.keep k15); have E_15 := Lib.hid (E_14.out.keep k15); have KW_15 := Lib.hid (KW_14.out.trans k15); obtain ⟨cS_15_0, cS_15_1, cS_15_2, -, -, -, -⟩ := id S_15.out; obtain ⟨cU_15_0, cU_15_1, cU_15_2, -, -, -, -⟩ := id U_15.out; obtain ⟨cNX_15_0, cNX_15_1, cNX_15_2, -, -, -, -⟩ := id NX_15.out; clear k15))
        | (go_at_call 31; ((with_reducible refine Calls.mono (RX.out _) ?_); rintro e w14 ⟨x2, rfl, hB, k14⟩; have T_14 := Lib.hid (T_13.out.keep k14); have X_14 := Lib.hid (X_13.out.keep k14); have Y_14 := Lib.hid (Y_13.out.keep k14); have B_14 := Lib.hid (B_13.out.keep k14); have C_14 := Lib.hid (C_13.out.keep k14); have CS_14 := Lib.hid (CS_13.out.keep k14); have S_14 := Lib.hid (S_13.out.keep k14); have CU_14 := Lib.hid (CU_13.out.keep k14); have U_14 := Lib.hid (U_13.out.keep k14); have CV_14 := Lib.hid (CV_13.out.keep k14); have V_14 := Lib.hid (V_13.out.keep k14); have CG_14 := Lib.hid (CG_13.out.keep k14); have G_14 := Lib.hid (G_13.out.keep k14); have NX_14 := Lib.hid (NX_13.out.keep k14); have CNX_14 := Lib.hid (CNX_13.out.keep k14); have A_14 := Lib.hid (A_13.out.keep k14); have E_14 := Lib.hid hB; clear hB; have KW_14 := Lib.hid (KW_13.out.trans k14); obtain ⟨cS_14_0, cS_14_1, cS_14_2, -, -, -, -⟩ := id S_14.out; obtain ⟨cU_14_0, cU_14_1, cU_14_2, -, -, -, -⟩ := id U_14.out; obtain ⟨cNX_14_0, cNX_14_1, cNX_14_2, -, -, -, -⟩ := id NX_14.out; clear k14))
        | (go_at_call 30; ((with_reducible refine Calls.mono (OX.out _) ?_); rintro e w13 ⟨x1, rfl, hA, k13⟩; have T_13 := Lib.hid (T_12.out.keep k13); have X_13 := Lib.hid (X_12.out.keep k13); have Y_13 := Lib.hid (Y_12.out.keep k13); have B_13 := Lib.hid (B_12.out.keep k13); have C_13 := Lib.hid (C_12.out.keep k13); have CS_13 := Lib.hid (CS_12.out.keep k13); have S_13 := Lib.hid (S_12.out.keep k13); have CU_13 := Lib.hid (CU_12.out.keep k13); have U_13 := Lib.hid (U_12.out.keep k13); have CV_13 := Lib.hid (CV_12.out.keep k13); have V_13 := Lib.hid (V_12.out.keep k13); have CG_13 := Lib.hid (CG_12.out.keep k13); have G_13 := Lib.hid (G_12.out.keep k13); have NX_13 := Lib.hid (NX_12.out.keep k13); have CNX_13 := Lib.hid (CNX_12.out.keep k13); have A_13 := Lib.hid hA; clear hA; have KW_13 := Lib.hid (KW_12.out.trans k13); obtain ⟨cS_13_0, cS_13_1, cS_13_2, -, -, -, -⟩ := id S_13.out; obtain ⟨cU_13_0, cU_13_1, cU_13_2, -, -, -, -⟩ := id U_13.out; obtain ⟨cNX_13_0, cNX_13_1, cNX_13_2, -, -, -, -⟩ := id NX_13.out; clear k13))
        | (go_at_call 14; ((with_reducible refine Calls.mono (qsame_t CS_11.out CU_11.out) ?_); rintro e w12 ⟨rfl, k12⟩; have T_12 := Lib.hid (T_11.out.keep k12); have X_12 := Lib.hid (X_11.out.keep k12); have Y_12 := Lib.hid (Y_11.out.keep k12); have B_12 := Lib.hid (B_11.out.keep k12); have C_12 := Lib.hid (C_11.out.keep k12); have CS_12 := Lib.hid (CS_11.out.keep k12); have S_12 := Lib.hid (S_11.out.keep k12); have CU_12 := Lib.hid (CU_11.out.keep k12); have U_12 := Lib.hid (U_11.out.keep k12); have CV_12 := Lib.hid (CV_11.out.keep k12); have V_12 := Lib.hid (V_11.out.keep k12); have CG_12 := Lib.hid (CG_11.out.keep k12); have G_12 := Lib.hid (G_11.out.keep k12); have NX_12 := Lib.hid (NX_11.out.keep k12); have CNX_12 := Lib.hid (CNX_11.out.keep k12); have KW_12 := Lib.hid (KW_11.out.trans k12); obtain ⟨cS_12_0, cS_12_1, cS_12_2, -, -, -, -⟩ := id S_12.out; obtain ⟨cU_12_0, cU_12_1, cU_12_2, -, -, -, -⟩ := id U_12.out; obtain ⟨cNX_12_0, cNX_12_1, cNX_12_2, -, -, -, -⟩ := id NX_12.out; clear k12)))
    clear cS_17_0 cS_17_1 cS_17_2 cU_17_0 cU_17_1 cU_17_2 cNX_17_0 cNX_17_1 cNX_17_2 cS_16_0 cS_16_1 cS_16_2 cU_16_0 cU_16_1 cU_16_2 cNX_16_0 cNX_16_1 cNX_16_2 cS_15_0 cS_15_1 cS_15_2 cU_15_0 cU_15_1 cU_15_2 cNX_15_0 cNX_15_1 cNX_15_2 cS_14_0 cS_14_1 cS_14_2 cU_14_0 cU_14_1 cU_14_2 cNX_14_0 cNX_14_1 cNX_14_2 cS_13_0 cS_13_1 cS_13_2 cU_13_0 cU_13_1 cU_13_2 cNX_13_0 cNX_13_1 cNX_13_2 cS_12_0 cS_12_1 cS_12_2 cU_12_0 cU_12_1 cU_12_2 cNX_12_0 cNX_12_1 cNX_12_2 cS_11_0 cS_11_1 cS_11_2 cU_11_0 cU_11_1 cU_11_2 cNX_11_0 cNX_11_1 cNX_11_2
    all_goals
      go_wp2_with fail
      go_ret
      exact ⟨rfl, KW_17.out⟩
set_option maxHeartbeats 4000000 in
theorem make_law_s1 {w : World} {s t : Bool} {a b : Option Addr} {n c m g : Nat} {lx ly : List Nat} (x : Int) (hx : Rd w a n c lx) (hy : Rd w b m g ly) (hT : Tab w) (hx1 : -9223372036854775808 ≤ x) (hx2 : x ≤ 9223372036854775807) (f1 : n ≤ 3) (f2 : m ≤ 3) (h0 : nv ly ≠ 0) : Calls Tryd.prog 4 #[.agg #[.bool s, .slice a n c], .agg #[.bool t, .slice b m g], .int .i64 x] w (BPost true w) := by
  obtain ⟨B_0, C_0, KW_0⟩ := opi2 w s a n c t b m g
  have T_0 := Lib.hid (hT.keep KW_0.out)
  have AW := Lib.hid (fun w1 (hT1 : Tab w1) => awake_c w1 hT1)
  have q1 := hx.le_cap
  have q2 := hx.cap_le
  have q3 := hy.le_cap
  have q4 := hy.cap_le
  have d1 : decide ((3 : Int) < (n : Int)) = false := decide_eq_false (by omega)
  have d2 : decide ((3 : Int) < (m : Int)) = false := decide_eq_false (by omega)
  have lX : lx.length ≤ 3 := by rw [hx.len_eq]; exact f1
  have lY : ly.length ≤ 3 := by rw [hy.len_eq]; exact f2
  have X_0 := Lib.hid ((hx.toNm rfl lX).keep KW_0.out)
  have Y_0 := Lib.hid ((hy.toNm rfl lY).keep KW_0.out)
  have MK := Lib.hid (fun w1 (h : Nm w1 (.slice a n c) (nv lx) 3) (h' : Nm w1 (.slice b m g) (nv ly) 3) (hT1 : Tab w1) => make_1 (s := s) (t := t) h h' (by omega) hT1 h0)
  have RM := Lib.hid (fun w1 (h : Nm w1 (.slice a n c) (nv lx) 3) (h' : Nm w1 (.slice b m g) (nv ly) 3) => rmakeq_1 (s := s) (t := t) h h' (by omega) h0)
  obtain ⟨q, hq⟩ : ∃ q, rv (s != t) (nv lx) (nv ly) = q := ⟨_, rfl⟩
  rw [hq] at MK RM
  clear hq
  have F6 := Lib.hid (fun w1 (hT1 : Tab w1) => qfrac_1 x 6 w1 hx1 hx2 (by omega) (by omega) hT1 (by decide))
  have F0 := Lib.hid (fun w1 => qfrac_0 x 0 w1 hx1 hx2 (by omega) (by omega) (by decide))
  have OF := Lib.hid (fun w1 => qof_c 6 w1 (by omega) (by omega))
  have OX := Lib.hid (fun w1 => qof_c x w1 hx1 hx2)
  have RX := Lib.hid (fun w1 => rqof_c x w1 hx1 hx2)
  have hB : BB ^ 3 = 79228162514264337593543950336 := by decide
  have rbx : Rb (x : Rat) 3 := rb_int (by rw [hB]; omega) (by omega)
  have rb6 : Rb ((6 : Int) : Rat) 3 := rb_int (by decide) (by omega)
  have rbd : Rb ((x : Rat) / ((6 : Int) : Rat)) 6 := by rw [Rat.div_def]; exact (rbx.mul (rb6.inv (by omega)) (by omega)).up (by omega)
  have h6 : ((6 : Int) : Rat) ≠ 0 := by decide
  have ML := Lib.hid (fun w1 u v (hu : Cr w1 u ((x : Rat) / ((6 : Int) : Rat))) (hv : Cr w1 v ((6 : Int) : Rat)) (hT1 : Tab w1) => qmul_c (hu.ra rbd) (hv.ra (rb6.up (j := 6) (by omega))) (by omega) (by omega) hT1)
  rw [rat_div_mul (x : Rat) h6] at ML
  obtain ⟨k6, hk6⟩ : ∃ q : Rat, (x : Rat) / ((6 : Int) : Rat) = q := ⟨_, rfl⟩
  rw [hk6] at F6 ML
  obtain ⟨xr, hxr⟩ : ∃ q : Rat, (x : Rat) = q := ⟨_, rfl⟩
  rw [hxr] at OX RX ML
  clear hx hy hT f1 f2 h0 lX lY hB rbx rb6 rbd h6 hk6 hxr hx1 hx2
  go_enter Tryd.func4, Tryd.ntmps4
  obtain ⟨B_c0, B_c1, -, -, -⟩ := id B_0.out
  obtain ⟨C_c0, C_c1, -, -, -⟩ := id C_0.out
  go_wp2_with fail
  refine Calls.mono (AW.out _ T_0.out) ?_
  rintro e w1 ⟨rfl, k1⟩
  clear B_c0 B_c1 C_c0 C_c1
  have T_1 := Lib.hid (T_0.out.keep k1)
  have X_1 := Lib.hid (X_0.out.keep k1)
  have Y_1 := Lib.hid (Y_0.out.keep k1)
  have B_1 := Lib.hid (B_0.out.keep k1)
  have C_1 := Lib.hid (C_0.out.keep k1)
  have KW_1 := Lib.hid (KW_0.out.trans k1)
  clear k1 T_0 X_0 Y_0 B_0 C_0 KW_0
  obtain ⟨B_c0, B_c1, -, -, -⟩ := id B_1.out
  obtain ⟨C_c0, C_c1, -, -, -⟩ := id C_1.out
  go_wp2_with fail
  refine Calls.mono (MK.out _ X_1.out Y_1.out T_1.out) ?_
  rintro e w2 ⟨vS, rfl, hS, k2⟩
  clear B_c0 B_c1 C_c0 C_c1
  have T_2 := Lib.hid (T_1.out.keep k2)
  have X_2 := Lib.hid (X_1.out.keep k2)
  have Y_2 := Lib.hid (Y_1.out.keep k2)
  have B_2 := Lib.hid (B_1.out.keep k2)
  have C_2 := Lib.hid (C_1.out.keep k2)
  have CS_2 := Lib.hid hS
  have KW_2 := Lib.hid (KW_1.out.trans k2)
  clear k2 T_1 X_1 Y_1 B_1 C_1 hS KW_1
  obtain ⟨aS, nS, cS, a'S, n'S, c'S, rfl, -⟩ := Cr.form CS_2.out
  have CS_2_x := CS_2.out
  obtain ⟨bS, hbS⟩ : ∃ b, decide ((q).num < 0) = b := ⟨_, rfl⟩
  rw [hbS] at CS_2_x ⊢
  have CS_2_y := Lib.hid CS_2_x
  clear CS_2_x hbS CS_2
  have T_3 := Lib.hid (T_2.out.keep ((Keep.refl _).alloc (.cells #[.bool bS, .slice aS nS cS, .slice a'S n'S c'S] 25)))
  have X_3 := Lib.hid (X_2.out.keep ((Keep.refl _).alloc (.cells #[.bool bS, .slice aS nS cS, .slice a'S n'S c'S] 25)))
  have Y_3 := Lib.hid (Y_2.out.keep ((Keep.refl _).alloc (.cells #[.bool bS, .slice aS nS cS, .slice a'S n'S c'S] 25)))
  have B_3 := Lib.hid (B_2.out.keep ((Keep.refl _).alloc (.cells #[.bool bS, .slice aS nS cS, .slice a'S n'S c'S] 25)))
  have C_3 := Lib.hid (C_2.out.keep ((Keep.refl _).alloc (.cells #[.bool bS, .slice aS nS cS, .slice a'S n'S c'S] 25)))
  have CS_3 := Lib.hid (CS_2_y.out.keep ((Keep.refl _).alloc (.cells #[.bool bS, .slice aS nS cS, .slice a'S n'S c'S] 25)))
  have KW_3 := Lib.hid (KW_2.out.trans ((Keep.refl _).alloc (.cells #[.bool bS, .slice aS nS cS, .slice a'S n'S c'S] 25)))
  clear T_2 X_2 Y_2 B_2 C_2 CS_2_y KW_2
  have S_3 := Lib.hid (QBox.new w2 bS aS nS cS a'S n'S c'S)
  obtain ⟨B_c0, B_c1, -, -, -⟩ := id B_3.out
  obtain ⟨C_c0, C_c1, -, -, -⟩ := id C_3.out
  obtain ⟨S_c0, S_c1, S_c2, -, -, -, -⟩ := id S_3.out
  go_wp2_with fail
  refine Calls.mono (RM.out _ X_3.out Y_3.out) ?_
  rintro e w4 ⟨vU, rfl, hS, k4⟩
  clear B_c0 B_c1 C_c0 C_c1 S_c0 S_c1 S_c2
  have T_4 := Lib.hid (T_3.out.keep k4)
  have X_4 := Lib.hid (X_3.out.keep k4)
  have Y_4 := Lib.hid (Y_3.out.keep k4)
  have B_4 := Lib.hid (B_3.out.keep k4)
  have C_4 := Lib.hid (C_3.out.keep k4)
  have CS_4 := Lib.hid (CS_3.out.keep k4)
  have S_4 := Lib.hid (S_3.out.keep k4)
  have CU_4 := Lib.hid hS
  have KW_4 := Lib.hid (KW_3.out.trans k4)
  clear k4 T_3 X_3 Y_3 B_3 C_3 CS_3 S_3 hS KW_3
  obtain ⟨aU, nU, cU, a'U, n'U, c'U, rfl, -⟩ := Cr.form CU_4.out
  have CU_4_x := CU_4.out
  obtain ⟨bU, hbU⟩ : ∃ b, decide ((q).num < 0) = b := ⟨_, rfl⟩
  rw [hbU] at CU_4_x ⊢
  have CU_4_y := Lib.hid CU_4_x
  clear CU_4_x hbU CU_4
  have T_5 := Lib.hid (T_4.out.keep ((Keep.refl _).alloc (.cells #[.bool bU, .slice aU nU cU, .slice a'U n'U c'U] 25)))
  have X_5 := Lib.hid (X_4.out.keep ((Keep.refl _).alloc (.cells #[.bool bU, .slice aU nU cU, .slice a'U n'U c'U] 25)))
  have Y_5 := Lib.hid (Y_4.out.keep ((Keep.refl _).alloc (.cells #[.bool bU, .slice aU nU cU, .slice a'U n'U c'U] 25)))
  have B_5 := Lib.hid (B_4.out.keep ((Keep.refl _).alloc (.cells #[.bool bU, .slice aU nU cU, .slice a'U n'U c'U] 25)))
  have C_5 := Lib.hid (C_4.out.keep ((Keep.refl _).alloc (.cells #[.bool bU, .slice aU nU cU, .slice a'U n'U c'U] 25)))
  have CS_5 := Lib.hid (CS_4.out.keep ((Keep.refl _).alloc (.cells #[.bool bU, .slice aU nU cU, .slice a'U n'U c'U] 25)))
  have S_5 := Lib.hid (S_4.out.keep ((Keep.refl _).alloc (.cells #[.bool bU, .slice aU nU cU, .slice a'U n'U c'U] 25)))
  have CU_5 := Lib.hid (CU_4_y.out.keep ((Keep.refl _).alloc (.cells #[.bool bU, .slice aU nU cU, .slice a'U n'U c'U] 25)))
  have KW_5 := Lib.hid (KW_4.out.trans ((Keep.refl _).alloc (.cells #[.bool bU, .slice aU nU cU, .slice a'U n'U c'U] 25)))
  clear T_4 X_4 Y_4 B_4 C_4 CS_4 S_4 CU_4_y KW_4
  have U_5 := Lib.hid (QBox.new w4 bU aU nU cU a'U n'U c'U)
  obtain ⟨B_c0, B_c1, -, -, -⟩ := id B_5.out
  obtain ⟨C_c0, C_c1, -, -, -⟩ := id C_5.out
  obtain ⟨S_c0, S_c1, S_c2, -, -, -, -⟩ := id S_5.out
  obtain ⟨U_c0, U_c1, U_c2, -, -, -, -⟩ := id U_5.out
  go_wp2_with fail
  refine Calls.mono (F6.out _ T_5.out) ?_
  rintro e w6 ⟨vV, rfl, hS, k6⟩
  clear B_c0 B_c1 C_c0 C_c1 S_c0 S_c1 S_c2 U_c0 U_c1 U_c2
  have T_6 := Lib.hid (T_5.out.keep k6)
  have X_6 := Lib.hid (X_5.out.keep k6)
  have Y_6 := Lib.hid (Y_5.out.keep k6)
  have B_6 := Lib.hid (B_5.out.keep k6)
  have C_6 := Lib.hid (C_5.out.keep k6)
  have CS_6 := Lib.hid (CS_5.out.keep k6)
  have S_6 := Lib.hid (S_5.out.keep k6)
  have CU_6 := Lib.hid (CU_5.out.keep k6)
  have U_6 := Lib.hid (U_5.out.keep k6)
  have CV_6 := Lib.hid hS
  have KW_6 := Lib.hid (KW_5.out.trans k6)
  clear k6 T_5 X_5 Y_5 B_5 C_5 CS_5 S_5 CU_5 U_5 hS KW_5
  obtain ⟨aV, nV, cV, a'V, n'V, c'V, rfl, -⟩ := Cr.form CV_6.out
  have CV_6_x := CV_6.out
  obtain ⟨bV, hbV⟩ : ∃ b, decide ((k6).num < 0) = b := ⟨_, rfl⟩
  rw [hbV] at CV_6_x ⊢
  have CV_6_y := Lib.hid CV_6_x
  clear CV_6_x hbV CV_6
  have T_7 := Lib.hid (T_6.out.keep ((Keep.refl _).alloc (.cells #[.bool bV, .slice aV nV cV, .slice a'V n'V c'V] 25)))
  have X_7 := Lib.hid (X_6.out.keep ((Keep.refl _).alloc (.cells #[.bool bV, .slice aV nV cV, .slice a'V n'V c'V] 25)))
  have Y_7 := Lib.hid (Y_6.out.keep ((Keep.refl _).alloc (.cells #[.bool bV, .slice aV nV cV, .slice a'V n'V c'V] 25)))
  have B_7 := Lib.hid (B_6.out.keep ((Keep.refl _).alloc (.cells #[.bool bV, .slice aV nV cV, .slice a'V n'V c'V] 25)))
  have C_7 := Lib.hid (C_6.out.keep ((Keep.refl _).alloc (.cells #[.bool bV, .slice aV nV cV, .slice a'V n'V c'V] 25)))
  have CS_7 := Lib.hid (CS_6.out.keep ((Keep.refl _).alloc (.cells #[.bool bV, .slice aV nV cV, .slice a'V n'V c'V] 25)))
  have S_7 := Lib.hid (S_6.out.keep ((Keep.refl _).alloc (.cells #[.bool bV, .slice aV nV cV, .slice a'V n'V c'V] 25)))
  have CU_7 := Lib.hid (CU_6.out.keep ((Keep.refl _).alloc (.cells #[.bool bV, .slice aV nV cV, .slice a'V n'V c'V] 25)))
  have U_7 := Lib.hid (U_6.out.keep ((Keep.refl _).alloc (.cells #[.bool bV, .slice aV nV cV, .slice a'V n'V c'V] 25)))
  have CV_7 := Lib.hid (CV_6_y.out.keep ((Keep.refl _).alloc (.cells #[.bool bV, .slice aV nV cV, .slice a'V n'V c'V] 25)))
  have KW_7 := Lib.hid (KW_6.out.trans ((Keep.refl _).alloc (.cells #[.bool bV, .slice aV nV cV, .slice a'V n'V c'V] 25)))
  clear T_6 X_6 Y_6 B_6 C_6 CS_6 S_6 CU_6 U_6 CV_6_y KW_6
  have V_7 := Lib.hid (QBox.new w6 bV aV nV cV a'V n'V c'V)
  obtain ⟨B_c0, B_c1, -, -, -⟩ := id B_7.out
  obtain ⟨C_c0, C_c1, -, -, -⟩ := id C_7.out
  obtain ⟨S_c0, S_c1, S_c2, -, -, -, -⟩ := id S_7.out
  obtain ⟨U_c0, U_c1, U_c2, -, -, -, -⟩ := id U_7.out
  obtain ⟨V_c0, V_c1, V_c2, -, -, -, -⟩ := id V_7.out
  go_wp2_with fail
  refine Calls.mono (F0.out _) ?_
  rintro e w8 ⟨vG, rfl, hS, k8⟩
  clear B_c0 B_c1 C_c0 C_c1 S_c0 S_c1 S_c2 U_c0 U_c1 U_c2 V_c0 V_c1 V_c2
  have T_8 := Lib.hid (T_7.out.keep k8)
  have X_8 := Lib.hid (X_7.out.keep k8)
  have Y_8 := Lib.hid (Y_7.out.keep k8)
  have B_8 := Lib.hid (B_7.out.keep k8)
  have C_8 := Lib.hid (C_7.out.keep k8)
  have CS_8 := Lib.hid (CS_7.out.keep k8)
  have S_8 := Lib.hid (S_7.out.keep k8)
  have CU_8 := Lib.hid (CU_7.out.keep k8)
  have U_8 := Lib.hid (U_7.out.keep k8)
  have CV_8 := Lib.hid (CV_7.out.keep k8)
  have V_8 := Lib.hid (V_7.out.keep k8)
  have CG_8 := Lib.hid hS
  have KW_8 := Lib.hid (KW_7.out.trans k8)
  clear k8 T_7 X_7 Y_7 B_7 C_7 CS_7 S_7 CU_7 U_7 CV_7 V_7 hS KW_7
  obtain ⟨aG, nG, cG, a'G, n'G, c'G, rfl, -⟩ := Cr.form CG_8.out
  have CG_8_x := CG_8.out
  obtain ⟨bG, hbG⟩ : ∃ b, decide (((0 : Rat)).num < 0) = b := ⟨_, rfl⟩
  rw [hbG] at CG_8_x ⊢
  have CG_8_y := Lib.hid CG_8_x
  clear CG_8_x hbG CG_8
  have T_9 := Lib.hid (T_8.out.keep ((Keep.refl _).alloc (.cells #[.bool bG, .slice aG nG cG, .slice a'G n'G c'G] 25)))
  have X_9 := Lib.hid (X_8.out.keep ((Keep.refl _).alloc (.cells #[.bool bG, .slice aG nG cG, .slice a'G n'G c'G] 25)))
  have Y_9 := Lib.hid (Y_8.out.keep ((Keep.refl _).alloc (.cells #[.bool bG, .slice aG nG cG, .slice a'G n'G c'G] 25)))
  have B_9 := Lib.hid (B_8.out.keep ((Keep.refl _).alloc (.cells #[.bool bG, .slice aG nG cG, .slice a'G n'G c'G] 25)))
  have C_9 := Lib.hid (C_8.out.keep ((Keep.refl _).alloc (.cells #[.bool bG, .slice aG nG cG, .slice a'G n'G c'G] 25)))
  have CS_9 := Lib.hid (CS_8.out.keep ((Keep.refl _).alloc (.cells #[.bool bG, .slice aG nG cG, .slice a'G n'G c'G] 25)))
  have S_9 := Lib.hid (S_8.out.keep ((Keep.refl _).alloc (.cells #[.bool bG, .slice aG nG cG, .slice a'G n'G c'G] 25)))
  have CU_9 := Lib.hid (CU_8.out.keep ((Keep.refl _).alloc (.cells #[.bool bG, .slice aG nG cG, .slice a'G n'G c'G] 25)))
  have U_9 := Lib.hid (U_8.out.keep ((Keep.refl _).alloc (.cells #[.bool bG, .slice aG nG cG, .slice a'G n'G c'G] 25)))
  have CV_9 := Lib.hid (CV_8.out.keep ((Keep.refl _).alloc (.cells #[.bool bG, .slice aG nG cG, .slice a'G n'G c'G] 25)))
  have V_9 := Lib.hid (V_8.out.keep ((Keep.refl _).alloc (.cells #[.bool bG, .slice aG nG cG, .slice a'G n'G c'G] 25)))
  have CG_9 := Lib.hid (CG_8_y.out.keep ((Keep.refl _).alloc (.cells #[.bool bG, .slice aG nG cG, .slice a'G n'G c'G] 25)))
  have KW_9 := Lib.hid (KW_8.out.trans ((Keep.refl _).alloc (.cells #[.bool bG, .slice aG nG cG, .slice a'G n'G c'G] 25)))
  clear T_8 X_8 Y_8 B_8 C_8 CS_8 S_8 CU_8 U_8 CV_8 V_8 CG_8_y KW_8
  have G_9 := Lib.hid (QBox.new w8 bG aG nG cG a'G n'G c'G)
  clear AW MK RM F6 F0
  go_upto_region 9 with fail
  go_cut [15] (fun sv wc => PBoxQ (w8.alloc (.cells #[.bool bG, .slice aG nG cG, .slice a'G n'G c'G] 25)) 0 xr sv wc)
  case first =>
    have SK : Hid (∀ wk : World, Keep ((w8.alloc (.cells #[.bool bG, .slice aG nG cG, .slice a'G n'G c'G] 25))) wk → wk.cell? ⟨w6.heap.size, 0, none⟩ = some (.bool bV) ∧ wk.cell? ⟨w6.heap.size, 1, none⟩ = some (.slice aV nV cV) ∧ wk.cell? ⟨w6.heap.size, 2, none⟩ = some (.slice a'V n'V c'V)) := Lib.hid (fun wk h => ⟨(V_9.out.keep h).c0, (V_9.out.keep h).c1, (V_9.out.keep h).c2⟩)
    have kS_0 : Keep ((w8.alloc (.cells #[.bool bG, .slice aG nG cG, .slice a'G n'G c'G] 25))) ((w8.alloc (.cells #[.bool bG, .slice aG nG cG, .slice a'G n'G c'G] 25)).drew) := (Keep.refl _).drew
    have kS_1 : Keep ((w8.alloc (.cells #[.bool bG, .slice aG nG cG, .slice a'G n'G c'G] 25))) (((w8.alloc (.cells #[.bool bG, .slice aG nG cG, .slice a'G n'G c'G] 25)).alloc (.cells #[.bool false, .slice none 0 0, .slice none 0 0] 25)).drew) := ((Keep.alloc (Keep.refl _) _)).drew
    obtain ⟨cz_0, cz_1, cz_2⟩ := SK.out _ kS_0
    go_wp2
    go_region_held3 (fun w' => w'.cell? ⟨w6.heap.size, 0, none⟩ = some (.bool bV) ∧ w'.cell? ⟨w6.heap.size, 1, none⟩ = some (.slice aV nV cV) ∧ w'.cell? ⟨w6.heap.size, 2, none⟩ = some (.slice a'V n'V c'V)) (first | with_reducible exact SK.out _ kS_0 | with_reducible exact SK.out _ kS_1 | with_reducible exact SK.out _ hW_1 | with_reducible exact SK.out _ (Keep.alloc hW_1 _) | with_reducible exact SK.out _ hW_2 | with_reducible exact SK.out _ (Keep.alloc hW_2 _) | (refine SK.out _ ?_; (repeat' (first | exact Keep.refl _ | assumption | refine Keep.alloc ?_ _ | refine Keep.drew ?_ | refine keep_set ?_ (by first | exact Nat.le_refl _ | assumption | (simp <;> omega)) _ | (refine Keep.trans ?_ (by assumption))))) | go_keep)
      (first
        | (go_at_call 30; ((with_reducible refine Calls.mono (OF.out _) ?_); rintro e v1 ⟨vO, rfl, hO, k1⟩; (have hW_1 : Keep ((w8.alloc (.cells #[.bool bG, .slice aG nG cG, .slice a'G n'G c'G] 25))) v1 := Keep.trans kS_0 k1); (have O_r := Lib.hid hO); clear hO; (have mk_1_0 := trivial)))
        | (go_at_call 30; ((with_reducible refine Calls.mono (OF.out _) ?_); rintro e v1 ⟨vO, rfl, hO, k1⟩; (have hW_1 : Keep ((w8.alloc (.cells #[.bool bG, .slice aG nG cG, .slice a'G n'G c'G] 25))) v1 := Keep.trans kS_1 k1); (have O_r := Lib.hid hO); clear hO; (have mk_1_1 := trivial); (have NB_1 := Lib.hid (((QBox.new (w8.alloc (.cells #[.bool bG, .slice aG nG cG, .slice a'G n'G c'G] 25)) false none 0 0 none 0 0).at (g' := w8.heap.size + 1) (by first | rfl | simp)).keep (show Keep (((w8.alloc (.cells #[.bool bG, .slice aG nG cG, .slice a'G n'G c'G] 25)).alloc (.cells #[.bool false, .slice none 0 0, .slice none 0 0] 25))) v1 from Keep.trans (Keep.drew (Keep.refl _)) k1)))))
        | (go_at_call 29; ((have mark := mk_1_0); (with_reducible refine Calls.mono (ML.out _ _ _ (CV_9.out.keep hW_1) (O_r.out.keep (Keep.refl _)) (T_9.out.keep hW_1)) ?_); rintro e v2 ⟨vQ, rfl, hq, k2⟩; (have hW_2 : Keep ((w8.alloc (.cells #[.bool bG, .slice aG nG cG, .slice a'G n'G c'G] 25))) v2 := Keep.trans hW_1 k2); (have hc_1_2 : Keep v1 v2 := Keep.trans (Keep.refl _) k2); (have Q_r := Lib.hid hq); clear hq; (have mk_2_00 := trivial); obtain ⟨za, zn, zc, za', zn', zc', rfl, -⟩ := Cr.form Q_r.out; (obtain ⟨bz, hbz⟩ : ∃ b, decide ((xr).num < 0) = b := ⟨_, rfl⟩); (have Q2 := Q_r.out); rw [hbz] at Q2 ⊢; (have Q3 := Lib.hid Q2); clear Q2 hbz Q_r; (have hlo : 0 ≤ v2.heap.size := Nat.zero_le _); (have FIN := Lib.hid (PBoxQ.post Q3.out hlo hW_2))))
        | (go_at_call 29; ((have mark := mk_1_0); (with_reducible refine Calls.mono (ML.out _ _ _ (CV_9.out.keep (Keep.alloc hW_1 _)) (O_r.out.keep (Keep.alloc (Keep.refl _) _)) (T_9.out.keep (Keep.alloc hW_1 _))) ?_); rintro e v2 ⟨vQ, rfl, hq, k2⟩; (have hW_2 : Keep ((w8.alloc (.cells #[.bool bG, .slice aG nG cG, .slice a'G n'G c'G] 25))) v2 := Keep.trans (Keep.alloc hW_1 _) k2); (have hc_1_2 : Keep v1 v2 := Keep.trans (Keep.alloc (Keep.refl _) _) k2); (have Q_r := Lib.hid hq); clear hq; (have mk_2_01 := trivial); (have NB_2 := Lib.hid (((QBox.new v1 false none 0 0 none 0 0).at (g' := v1.heap.size) (by first | rfl | simp)).keep (show Keep ((v1.alloc (.cells #[.bool false, .slice none 0 0, .slice none 0 0] 25))) v2 from Keep.trans (Keep.refl _) k2))); obtain ⟨za, zn, zc, za', zn', zc', rfl, -⟩ := Cr.form Q_r.out; (obtain ⟨bz, hbz⟩ : ∃ b, decide ((xr).num < 0) = b := ⟨_, rfl⟩); (have Q2 := Q_r.out); rw [hbz] at Q2 ⊢; (have Q3 := Lib.hid Q2); clear Q2 hbz Q_r; (have hlo : 0 ≤ v1.heap.size := Nat.zero_le _); (have hgw : ((w8.alloc (.cells #[.bool bG, .slice aG nG cG, .slice a'G n'G c'G] 25))).heap.size ≤ v1.heap.size := (by have h9 := Below.size hW_1; exact h9)); (obtain ⟨z0, z1, z2, f0, f1, f2, -⟩ := id NB_2.out); (have FIN := Lib.hid (PBoxQ.pre Q3.out NB_2.out hlo hgw hW_2))))
        | (go_at_call 29; ((have mark := mk_1_1); (with_reducible refine Calls.mono (ML.out _ _ _ (CV_9.out.keep hW_1) (O_r.out.keep (Keep.refl _)) (T_9.out.keep hW_1)) ?_); rintro e v2 ⟨vQ, rfl, hq, k2⟩; (have hW_2 : Keep ((w8.alloc (.cells #[.bool bG, .slice aG nG cG, .slice a'G n'G c'G] 25))) v2 := Keep.trans hW_1 k2); (have hc_1_2 : Keep v1 v2 := Keep.trans (Keep.refl _) k2); (have Q_r := Lib.hid hq); clear hq; (have mk_2_10 := trivial); (have NB_2 := Lib.hid (NB_1.out.keep (hc_1_2))); obtain ⟨za, zn, zc, za', zn', zc', rfl, -⟩ := Cr.form Q_r.out; (obtain ⟨bz, hbz⟩ : ∃ b, decide ((xr).num < 0) = b := ⟨_, rfl⟩); (have Q2 := Q_r.out); rw [hbz] at Q2 ⊢; (have Q3 := Lib.hid Q2); clear Q2 hbz Q_r; (have hlo : 0 ≤ w8.heap.size + 1 := Nat.zero_le _); (have hgw : ((w8.alloc (.cells #[.bool bG, .slice aG nG cG, .slice a'G n'G c'G] 25))).heap.size ≤ w8.heap.size + 1 := (by simp)); (obtain ⟨z0, z1, z2, f0, f1, f2, -⟩ := id NB_2.out); (have FIN := Lib.hid (PBoxQ.pre Q3.out NB_2.out hlo hgw hW_2)))))
    all_goals (go_wp2_with fail; go_meet; exact FIN.out)
  case rest =>
    obtain ⟨gNX, bNX, aNX, nNX, cNX, a'NX, n'NX, c'NX, rfl, -, hbx, hcr, kx⟩ := hcut
    obtain ⟨wx15, rfl⟩ : ∃ x : World, x = wc := ⟨_, rfl⟩
    have T_10 := Lib.hid (T_9.out.keep kx)
    have X_10 := Lib.hid (X_9.out.keep kx)
    have Y_10 := Lib.hid (Y_9.out.keep kx)
    have B_10 := Lib.hid (B_9.out.keep kx)
    have C_10 := Lib.hid (C_9.out.keep kx)
    have CS_10 := Lib.hid (CS_9.out.keep kx)
    have S_10 := Lib.hid (S_9.out.keep kx)
    have CU_10 := Lib.hid (CU_9.out.keep kx)
    have U_10 := Lib.hid (U_9.out.keep kx)
    have CV_10 := Lib.hid (CV_9.out.keep kx)
    have V_10 := Lib.hid (V_9.out.keep kx)
    have CG_10 := Lib.hid (CG_9.out.keep kx)
    have G_10 := Lib.hid (G_9.out.keep kx)
    have NX_10 := Lib.hid hbx
    have CNX_10 := Lib.hid hcr
    have KW_10 := Lib.hid (KW_9.out.trans kx)
    clear kx T_9 X_9 Y_9 B_9 C_9 CS_9 S_9 CU_9 U_9 CV_9 V_9 CG_9 G_9 hbx hcr KW_9
    clear OF ML
    have T_11 := Lib.hid (T_10.out.keep (keep_drew _))
    clear T_10
    have X_11 := Lib.hid (X_10.out.keep (keep_drew _))
    clear X_10
    have Y_11 := Lib.hid (Y_10.out.keep (keep_drew _))
    clear Y_10
    have B_11 := Lib.hid (B_10.out.keep (keep_drew _))
    clear B_10
    have C_11 := Lib.hid (C_10.out.keep (keep_drew _))
    clear C_10
    have CS_11 := Lib.hid (CS_10.out.keep (keep_drew _))
    clear CS_10
    have S_11 := Lib.hid (S_10.out.keep (keep_drew _))
    clear S_10
    have CU_11 := Lib.hid (CU_10.out.keep (keep_drew _))
    clear CU_10
    have U_11 := Lib.hid (U_10.out.keep (keep_drew _))
    clear U_10
    have CV_11 := Lib.hid (CV_10.out.keep (keep_drew _))
    clear CV_10
    have V_11 := Lib.hid (V_10.out.keep (keep_drew _))
    clear V_10
    have CG_11 := Lib.hid (CG_10.out.keep (keep_drew _))
    clear CG_10
    have G_11 := Lib.hid (G_10.out.keep (keep_drew _))
    clear G_10
    have NX_11 := Lib.hid (NX_10.out.keep (keep_drew _))
    clear NX_10
    have CNX_11 := Lib.hid (CNX_10.out.keep (keep_drew _))
    clear CNX_10
    have KW_11 := Lib.hid (KW_10.out.trans (keep_drew _))
    clear KW_10
    obtain ⟨cS_11_0, cS_11_1, cS_11_2, -, -, -, -⟩ := id S_11.out
    obtain ⟨cU_11_0, cU_11_1, cU_11_2, -, -, -, -⟩ := id U_11.out
    obtain ⟨cNX_11_0, cNX_11_1, cNX_11_2, -, -, -, -⟩ := id NX_11.out
    go_wp2
    go_region_held3 (fun w' => w'.cell? ⟨w2.heap.size, 0, none⟩ = some (.bool bS) ∧ w'.cell? ⟨w2.heap.size, 1, none⟩ = some (.slice aS nS cS) ∧ w'.cell? ⟨w2.heap.size, 2, none⟩ = some (.slice a'S n'S c'S) ∧ w'.cell? ⟨w4.heap.size, 0, none⟩ = some (.bool bU) ∧ w'.cell? ⟨w4.heap.size, 1, none⟩ = some (.slice aU nU cU) ∧ w'.cell? ⟨w4.heap.size, 2, none⟩ = some (.slice a'U n'U c'U) ∧ w'.cell? ⟨gNX, 0, none⟩ = some (.bool bNX) ∧ w'.cell? ⟨gNX, 1, none⟩ = some (.slice aNX nNX cNX) ∧ w'.cell? ⟨gNX, 2, none⟩ = some (.slice a'NX n'NX c'NX)) (first | exact ⟨cS_17_0, cS_17_1, cS_17_2, cU_17_0, cU_17_1, cU_17_2, cNX_17_0, cNX_17_1, cNX_17_2⟩ | exact ⟨cS_16_0, cS_16_1, cS_16_2, cU_16_0, cU_16_1, cU_16_2, cNX_16_0, cNX_16_1, cNX_16_2⟩ | exact ⟨cS_15_0, cS_15_1, cS_15_2, cU_15_0, cU_15_1, cU_15_2, cNX_15_0, cNX_15_1, cNX_15_2⟩ | exact ⟨cS_14_0, cS_14_1, cS_14_2, cU_14_0, cU_14_1, cU_14_2, cNX_14_0, cNX_14_1, cNX_14_2⟩ | exact ⟨cS_13_0, cS_13_1, cS_13_2, cU_13_0, cU_13_1, cU_13_2, cNX_13_0, cNX_13_1, cNX_13_2⟩ | exact ⟨cS_12_0, cS_12_1, cS_12_2, cU_12_0, cU_12_1, cU_12_2, cNX_12_0, cNX_12_1, cNX_12_2⟩ | exact ⟨cS_11_0, cS_11_1, cS_11_2, cU_11_0, cU_11_1, cU_11_2, cNX_11_0, cNX_11_1, cNX_11_2⟩ | go_keep)
      (first
        | (go_at_call 14; ((with_reducible refine Calls.mono (qsame_t CNX_16.out F_16.out) ?_); rintro e w17 ⟨rfl, k17⟩; have T_17 := Lib.hid (T_16.out.keep k17); have X_17 := Lib.hid (X_16.out.keep k17); have Y_17 := Lib.hid (Y_16.out.keep k17); have B_17 := Lib.hid (B_16.out.keep k17); have C_17 := Lib.hid (C_16.out.keep k17); have CS_17 := Lib.hid (CS_16.out.keep k17); have S_17 := Lib.hid (S_16.out.keep k17); have CU_17 := Lib.hid (CU_16.out.keep k17); have U_17 := Lib.hid (U_16.out.keep k17); have CV_17 := Lib.hid (CV_16.out.keep k17); have V_17 := Lib.hid (V_16.out.keep k17); have CG_17 := Lib.hid (CG_16.out.keep k17); have G_17 := Lib.hid (G_16.out.keep k17); have NX_17 := Lib.hid (NX_16.out.keep k17); have CNX_17 := Lib.hid (CNX_16.out.keep k17); have A_17 := Lib.hid (A_16.out.keep k17); have E_17 := Lib.hid (E_16.out.keep k17); have F_17 := Lib.hid (F_16.out.keep k17); have KW_17 := Lib.hid (KW_16.out.trans k17); obtain ⟨cS_17_0, cS_17_1, cS_17_2, -, -, -, -⟩ := id S_17.out; obtain ⟨cU_17_0, cU_17_1, cU_17_2, -, -, -, -⟩ := id U_17.out; obtain ⟨cNX_17_0, cNX_17_1, cNX_17_2, -, -, -, -⟩ := id NX_17.out; clear k17))
        | (go_at_call 31; ((with_reducible refine Calls.mono (RX.out _) ?_); rintro e w16 ⟨x3, rfl, hC, k16⟩; have T_16 := Lib.hid (T_15.out.keep k16); have X_16 := Lib.hid (X_15.out.keep k16); have Y_16 := Lib.hid (Y_15.out.keep k16); have B_16 := Lib.hid (B_15.out.keep k16); have C_16 := Lib.hid (C_15.out.keep k16); have CS_16 := Lib.hid (CS_15.out.keep k16); have S_16 := Lib.hid (S_15.out.keep k16); have CU_16 := Lib.hid (CU_15.out.keep k16); have U_16 := Lib.hid (U_15.out.keep k16); have CV_16 := Lib.hid (CV_15.out.keep k16); have V_16 := Lib.hid (V_15.out.keep k16); have CG_16 := Lib.hid (CG_15.out.keep k16); have G_16 := Lib.hid (G_15.out.keep k16); have NX_16 := Lib.hid (NX_15.out.keep k16); have CNX_16 := Lib.hid (CNX_15.out.keep k16); have A_16 := Lib.hid (A_15.out.keep k16); have E_16 := Lib.hid (E_15.out.keep k16); have F_16 := Lib.hid hC; clear hC; have KW_16 := Lib.hid (KW_15.out.trans k16); obtain ⟨cS_16_0, cS_16_1, cS_16_2, -, -, -, -⟩ := id S_16.out; obtain ⟨cU_16_0, cU_16_1, cU_16_2, -, -, -, -⟩ := id U_16.out; obtain ⟨cNX_16_0, cNX_16_1, cNX_16_2, -, -, -, -⟩ := id NX_16.out; clear k16))
        | (go_at_call 14; ((with_reducible refine Calls.mono (qsame_t A_14.out E_14.out) ?_); rintro e w15 ⟨rfl, k15⟩; have T_15 := Lib.hid (T_14.out.keep k15); have X_15 := Lib.hid (X_14.out.keep k15); have Y_15 := Lib.hid (Y_14.out.keep k15); have B_15 := Lib.hid (B_14.out.keep k15); have C_15 := Lib.hid (C_14.out.keep k15); have CS_15 := Lib.hid (CS_14.out.keep k15); have S_15 := Lib.hid (S_14.out.keep k15); have CU_15 := Lib.hid (CU_14.out.keep k15); have U_15 := Lib.hid (U_14.out.keep k15); have CV_15 := Lib.hid (CV_14.out.keep k15); have V_15 := Lib.hid (V_14.out.keep k15); have CG_15 := Lib.hid (CG_14.out.keep k15); have G_15 := Lib.hid (G_14.out.keep k15); have NX_15 := Lib.hid (NX_14.out.keep k15); have CNX_15 := Lib.hid (CNX_14.out.keep k15); have A_15 := Lib.hid (A_14.out.keep k15); have E_15 := Lib.hid (E_14.out.keep k15); have KW_15 := Lib.hid (KW_14.out.trans k15); obtain ⟨cS_15_0, cS_15_1, cS_15_2, -, -, -, -⟩ := id S_15.out; obtain ⟨cU_15_0, cU_15_1, cU_15_2, -, -, -, -⟩ := id U_15.out; obtain ⟨cNX_15_0, cNX_15_1, cNX_15_2, -, -, -, -⟩ := id NX_15.out; clear k15))
        | (go_at_call 31; ((with_reducible refine Calls.mono (RX.out _) ?_); rintro e w14 ⟨x2, rfl, hB, k14⟩; have T_14 := Lib.hid (T_13.out.keep k14); have X_14 := Lib.hid (X_13.out.keep k14); have Y_14 := Lib.hid (Y_13.out.keep k14); have B_14 := Lib.hid (B_13.out.keep k14); have C_14 := Lib.hid (C_13.out.keep k14); have CS_14 := Lib.hid (CS_13.out.keep k14); have S_14 := Lib.hid (S_13.out.keep k14); have CU_14 := Lib.hid (CU_13.out.keep k14); have U_14 := Lib.hid (U_13.out.keep k14); have CV_14 := Lib.hid (CV_13.out.keep k14); have V_14 := Lib.hid (V_13.out.keep k14); have CG_14 := Lib.hid (CG_13.out.keep k14); have G_14 := Lib.hid (G_13.out.keep k14); have NX_14 := Lib.hid (NX_13.out.keep k14); have CNX_14 := Lib.hid (CNX_13.out.keep k14); have A_14 := Lib.hid (A_13.out.keep k14); have E_14 := Lib.hid hB; clear hB; have KW_14 := Lib.hid (KW_13.out.trans k14); obtain ⟨cS_14_0, cS_14_1, cS_14_2, -, -, -, -⟩ := id S_14.out; obtain ⟨cU_14_0, cU_14_1, cU_14_2, -, -, -, -⟩ := id U_14.out; obtain ⟨cNX_14_0, cNX_14_1, cNX_14_2, -, -, -, -⟩ := id NX_14.out; clear k14))
        | (go_at_call 30; ((with_reducible refine Calls.mono (OX.out _) ?_); rintro e w13 ⟨x1, rfl, hA, k13⟩; have T_13 := Lib.hid (T_12.out.keep k13); have X_13 := Lib.hid (X_12.out.keep k13); have Y_13 := Lib.hid (Y_12.out.keep k13); have B_13 := Lib.hid (B_12.out.keep k13); have C_13 := Lib.hid (C_12.out.keep k13); have CS_13 := Lib.hid (CS_12.out.keep k13); have S_13 := Lib.hid (S_12.out.keep k13); have CU_13 := Lib.hid (CU_12.out.keep k13); have U_13 := Lib.hid (U_12.out.keep k13); have CV_13 := Lib.hid (CV_12.out.keep k13); have V_13 := Lib.hid (V_12.out.keep k13); have CG_13 := Lib.hid (CG_12.out.keep k13); have G_13 := Lib.hid (G_12.out.keep k13); have NX_13 := Lib.hid (NX_12.out.keep k13); have CNX_13 := Lib.hid (CNX_12.out.keep k13); have A_13 := Lib.hid hA; clear hA; have KW_13 := Lib.hid (KW_12.out.trans k13); obtain ⟨cS_13_0, cS_13_1, cS_13_2, -, -, -, -⟩ := id S_13.out; obtain ⟨cU_13_0, cU_13_1, cU_13_2, -, -, -, -⟩ := id U_13.out; obtain ⟨cNX_13_0, cNX_13_1, cNX_13_2, -, -, -, -⟩ := id NX_13.out; clear k13))
        | (go_at_call 14; ((with_reducible refine Calls.mono (qsame_t CS_11.out CU_11.out) ?_); rintro e w12 ⟨rfl, k12⟩; have T_12 := Lib.hid (T_11.out.keep k12); have X_12 := Lib.hid (X_11.out.keep k12); have Y_12 := Lib.hid (Y_11.out.keep k12); have B_12 := Lib.hid (B_11.out.keep k12); have C_12 := Lib.hid (C_11.out.keep k12); have CS_12 := Lib.hid (CS_11.out.keep k12); have S_12 := Lib.hid (S_11.out.keep k12); have CU_12 := Lib.hid (CU_11.out.keep k12); have U_12 := Lib.hid (U_11.out.keep k12); have CV_12 := Lib.hid (CV_11.out.keep k12); have V_12 := Lib.hid (V_11.out.keep k12); have CG_12 := Lib.hid (CG_11.out.keep k12); have G_12 := Lib.hid (G_11.out.keep k12); have NX_12 := Lib.hid (NX_11.out.keep k12); have CNX_12 := Lib.hid (CNX_11.out.keep k12); have KW_12 := Lib.hid (KW_11.out.trans k12); obtain ⟨cS_12_0, cS_12_1, cS_12_2, -, -, -, -⟩ := id S_12.out; obtain ⟨cU_12_0, cU_12_1, cU_12_2, -, -, -, -⟩ := id U_12.out; obtain ⟨cNX_12_0, cNX_12_1, cNX_12_2, -, -, -, -⟩ := id NX_12.out; clear k12)))
    clear cS_17_0 cS_17_1 cS_17_2 cU_17_0 cU_17_1 cU_17_2 cNX_17_0 cNX_17_1 cNX_17_2 cS_16_0 cS_16_1 cS_16_2 cU_16_0 cU_16_1 cU_16_2 cNX_16_0 cNX_16_1 cNX_16_2 cS_15_0 cS_15_1 cS_15_2 cU_15_0 cU_15_1 cU_15_2 cNX_15_0 cNX_15_1 cNX_15_2 cS_14_0 cS_14_1 cS_14_2 cU_14_0 cU_14_1 cU_14_2 cNX_14_0 cNX_14_1 cNX_14_2 cS_13_0 cS_13_1 cS_13_2 cU_13_0 cU_13_1 cU_13_2 cNX_13_0 cNX_13_1 cNX_13_2 cS_12_0 cS_12_1 cS_12_2 cU_12_0 cU_12_1 cU_12_2 cNX_12_0 cNX_12_1 cNX_12_2 cS_11_0 cS_11_1 cS_11_2 cU_11_0 cU_11_1 cU_11_2 cNX_11_0 cNX_11_1 cNX_11_2
    all_goals
      go_wp2_with fail
      go_ret
      exact ⟨rfl, KW_17.out⟩
theorem make_law_c {w : World} {s t : Bool} {a b : Option Addr} {n c m g : Nat} {lx ly : List Nat} (x : Int) (hx : Rd w a n c lx) (hy : Rd w b m g ly) (hT : Tab w) (hx1 : -9223372036854775808 ≤ x) (hx2 : x ≤ 9223372036854775807) : Calls Tryd.prog 4 #[.agg #[.bool s, .slice a n c], .agg #[.bool t, .slice b m g], .int .i64 x] w (BPost true w) := by
  rcases Nat.lt_or_ge 3 n with f1 | f1
  · exact make_law_b0 x hx hy hT hx1 hx2 f1
  · rcases Nat.lt_or_ge 3 m with f2 | f2
    · exact make_law_b1 x hx hy hT hx1 hx2 f1 f2
    · by_cases h0 : nv ly = 0
      · exact make_law_s0 x hx hy hT hx1 hx2 f1 f2 h0
      · exact make_law_s1 x hx hy hT hx1 hx2 f1 f2 h0
end Go.Proofs.YtjkfnnoakjdgmaaDoor
