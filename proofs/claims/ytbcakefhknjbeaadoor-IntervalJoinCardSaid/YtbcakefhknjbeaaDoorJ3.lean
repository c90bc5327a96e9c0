/- Walks of layer 6: Make, Same, Relu, Join, Add. -/
import Derived.Test.YtbcakefhknjbeaaDoorJ2
namespace Go.Proofs.YtbcakefhknjbeaaDoor
open Go.RowKit
set_option linter.unusedVariables false
theorem Cr.zero (w : World) : Cr w (.agg #[.bool false, .slice none 0 0, .slice none 0 0]) 0 :=
  Cr.of (by decide) (by show Rd w none 0 0 (dig 0); rw [dig_zero]; exact Rd.nil w) (by show Rd w none 0 0 (dig 0); rw [dig_zero]; exact Rd.nil w)
theorem ICr.zero (w : World) : ICr w (.agg #[.bool false, .slice none 0 0, .slice none 0 0, .bool false, .slice none 0 0, .slice none 0 0]) 0 0 :=
  ⟨_, _, _, _, _, _, _, _, _, _, _, _, _, _, rfl, Cr.zero w, Cr.zero w⟩
set_option maxHeartbeats 800000 in
theorem rimake_0 {w : World} {vx vy : Value} {p q : Rat} {k : Nat} (hx : Ra w vx p k) (hy : Ra w vy q k) (hk : k ≤ 100000) (hk1 : 1 ≤ k) (hc : ¬ 0 < rC p q) : Calls Tryd.prog 19 #[vx, vy] w (J2Post p q (.int .i64 0) w) := by
  obtain ⟨xb, xa, xn, xc, xh, xm, xg, rfl, hxv⟩ := hx.fv
  obtain ⟨yb, ya, yn, yc, yh, ym, yg, rfl, hyv⟩ := hy.fv
  have KW_0 := Lib.hid (show Keep w (((w.alloc (.cells #[.bool xb, .slice xa xn xc, .slice xh xm xg] 32)).alloc (.cells #[.bool yb, .slice ya yn yc, .slice yh ym yg] 32)).alloc (.cells #[.bool false, .slice none 0 0, .slice none 0 0, .bool false, .slice none 0 0, .slice none 0 0] 35)) from (Keep.alloc (Keep.alloc (Keep.alloc (Keep.refl _) _) _) _))
  have BX_0 := Lib.hid (show Bx (w.heap.size) [.bool xb, .slice xa xn xc, .slice xh xm xg] (((w.alloc (.cells #[.bool xb, .slice xa xn xc, .slice xh xm xg] 32)).alloc (.cells #[.bool yb, .slice ya yn yc, .slice yh ym yg] 32)).alloc (.cells #[.bool false, .slice none 0 0, .slice none 0 0, .bool false, .slice none 0 0, .slice none 0 0] 35)) from ((Bx.new w 32 (.b _ (.s _ _ _ (.s _ _ _ .nil)))).at (g' := w.heap.size) (by simp)).keep (Keep.alloc (Keep.alloc (Keep.refl _) _) _))
  have BY_0 := Lib.hid (show Bx (w.heap.size + 1) [.bool yb, .slice ya yn yc, .slice yh ym yg] (((w.alloc (.cells #[.bool xb, .slice xa xn xc, .slice xh xm xg] 32)).alloc (.cells #[.bool yb, .slice ya yn yc, .slice yh ym yg] 32)).alloc (.cells #[.bool false, .slice none 0 0, .slice none 0 0, .bool false, .slice none 0 0, .slice none 0 0] 35)) from ((Bx.new (w.alloc (.cells #[.bool xb, .slice xa xn xc, .slice xh xm xg] 32)) 32 (.b _ (.s _ _ _ (.s _ _ _ .nil)))).at (g' := w.heap.size + 1) (by simp)).keep (Keep.alloc (Keep.refl _) _))
  have RB_0 := Lib.hid (show Bx (w.heap.size + 1 + 1) [.bool false, .slice none 0 0, .slice none 0 0, .bool false, .slice none 0 0, .slice none 0 0] (((w.alloc (.cells #[.bool xb, .slice xa xn xc, .slice xh xm xg] 32)).alloc (.cells #[.bool yb, .slice ya yn yc, .slice yh ym yg] 32)).alloc (.cells #[.bool false, .slice none 0 0, .slice none 0 0, .bool false, .slice none 0 0, .slice none 0 0] 35)) from ((Bx.new ((w.alloc (.cells #[.bool xb, .slice xa xn xc, .slice xh xm xg] 32)).alloc (.cells #[.bool yb, .slice ya yn yc, .slice yh ym yg] 32)) 35 (.b _ (.s _ _ _ (.s _ _ _ (.b _ (.s _ _ _ (.s _ _ _ .nil))))))).at (g' := w.heap.size + 1 + 1) (by simp)).keep (Keep.refl _))
  have X_0 := Lib.hid (hxv.keep KW_0.out)
  have Y_0 := Lib.hid (hyv.keep KW_0.out)
  have CP := Lib.hid (fun w1 (h : Ra w1 (.agg #[.bool xb, .slice xa xn xc, .slice xh xm xg]) p k) (h' : Ra w1 (.agg #[.bool yb, .slice ya yn yc, .slice yh ym yg]) q k) => rqcmp_c h h' hk hk1)
  have CX := Lib.hid (fun w1 (h : Ra w1 (.agg #[.bool xb, .slice xa xn xc, .slice xh xm xg]) p k) => rcanon_c h (by omega) hk1)
  have CY := Lib.hid (fun w1 (h : Ra w1 (.agg #[.bool yb, .slice ya yn yc, .slice yh ym yg]) q k) => rcanon_c h (by omega) hk1)
  obtain ⟨z, hz⟩ : ∃ z, rC p q = z := ⟨_, rfl⟩
  rw [hz] at CP hc
  have hd : decide (0 < z) = false := by simpa using hc
  clear hz hc hxv hyv
  go_enter Tryd.func19, Tryd.ntmps19
  obtain ⟨BX_c0, BX_c1, BX_c2, -, -, -⟩ := BX_0.out.c3
  obtain ⟨BY_c0, BY_c1, BY_c2, -, -, -⟩ := BY_0.out.c3
  obtain ⟨RB_c0, RB_c1, RB_c2, RB_c3, RB_c4, RB_c5, -, -, -, -, -, -⟩ := RB_0.out.c6
  go_wp2_with fail
  refine Calls.mono (CP.out _ X_0.out Y_0.out) ?_
  rintro e w1 ⟨rfl, k1⟩
  clear BX_c0 BX_c1 BX_c2 BY_c0 BY_c1 BY_c2 RB_c0 RB_c1 RB_c2 RB_c3 RB_c4 RB_c5
  have BX_1 := Lib.hid (BX_0.out.keep k1)
  have BY_1 := Lib.hid (BY_0.out.keep k1)
  have RB_1 := Lib.hid (RB_0.out.keep k1)
  have X_1 := Lib.hid (X_0.out.keep k1)
  have Y_1 := Lib.hid (Y_0.out.keep k1)
  have KW_1 := Lib.hid (KW_0.out.trans k1)
  clear k1 BX_0 BY_0 RB_0 X_0 Y_0 KW_0
  clear CP
  obtain ⟨oRB_0, oRB_1, oRB_2, oRB_3, oRB_4, oRB_5, qRB_0, qRB_1, qRB_2, qRB_3, qRB_4, qRB_5⟩ := RB_1.out.c6
  obtain ⟨oBX_0, oBX_1, oBX_2, qBX_0, qBX_1, qBX_2⟩ := BX_1.out.c3
  obtain ⟨oBY_0, oBY_1, oBY_2, qBY_0, qBY_1, qBY_2⟩ := BY_1.out.c3
  have BX_2 := Lib.hid (BX_1.out.keep (keep_drew _))
  clear BX_1
  have BY_2 := Lib.hid (BY_1.out.keep (keep_drew _))
  clear BY_1
  have RB_2 := Lib.hid (RB_1.out.keep (keep_drew _))
  clear RB_1
  have X_2 := Lib.hid (X_1.out.keep (keep_drew _))
  clear X_1
  have Y_2 := Lib.hid (Y_1.out.keep (keep_drew _))
  clear Y_1
  have KW_2 := Lib.hid (KW_1.out.trans (keep_drew _))
  clear KW_1
  obtain ⟨cBX_2_0, cBX_2_1, cBX_2_2, -, -, -⟩ := BX_2.out.c3
  obtain ⟨cBY_2_0, cBY_2_1, cBY_2_2, -, -, -⟩ := BY_2.out.c3
  go_wp2
  go_region_held3 (fun w' => w'.cell? ⟨w.heap.size, 0, none⟩ = some (.bool xb) ∧ w'.cell? ⟨w.heap.size, 1, none⟩ = some (.slice xa xn xc) ∧ w'.cell? ⟨w.heap.size, 2, none⟩ = some (.slice xh xm xg) ∧ w'.cell? ⟨w.heap.size + 1, 0, none⟩ = some (.bool yb) ∧ w'.cell? ⟨w.heap.size + 1, 1, none⟩ = some (.slice ya yn yc) ∧ w'.cell? ⟨w.heap.size + 1, 2, none⟩ = some (.slice yh ym yg)) (first | with_reducible exact ⟨yBX_0, yBX_1, yBX_2, yBY_0, yBY_1, yBY_2⟩ | with_reducible exact ⟨zBX_0, zBX_1, zBX_2, zBY_0, zBY_1, zBY_2⟩ | with_reducible exact ⟨cBX_3_0, cBX_3_1, cBX_3_2, cBY_3_0, cBY_3_1, cBY_3_2⟩ | with_reducible exact ⟨cBX_2_0, cBX_2_1, cBX_2_2, cBY_2_0, cBY_2_1, cBY_2_2⟩ | go_keep)
    (first
      | (go_at_call 57; ((with_reducible refine Calls.mono (CY.out _ Y_3.out) ?_); rintro e wz ⟨u, rfl, hu, kz⟩; obtain ⟨b0, a0, n0, c0, h0, m0, g0, b1, a1, n1, c1, h1, m1, g1, rfl, rfl, hcr, hkk, -⟩ := ICr.put (U_3.out.keep kz) hu (RB_3.out.keep kz) rfl (KW_3.out.trans kz) (by omega); have FIN := Lib.hid (show J2Post (p) (q) (.int .i64 0) w (.returned (.tuple #[.agg #[.bool b0, .slice a0 n0 c0, .slice h0 m0 g0, .bool b1, .slice a1 n1 c1, .slice h1 m1 g1], .int .i64 0])) ((((((wz.setCell ⟨w.heap.size + 1 + 1, 0, none⟩ (.bool b0)).setCell ⟨w.heap.size + 1 + 1, 1, none⟩ (.slice a0 n0 c0)).setCell ⟨w.heap.size + 1 + 1, 2, none⟩ (.slice h0 m0 g0)).setCell ⟨w.heap.size + 1 + 1, 3, none⟩ (.bool b1)).setCell ⟨w.heap.size + 1 + 1, 4, none⟩ (.slice a1 n1 c1)).setCell ⟨w.heap.size + 1 + 1, 5, none⟩ (.slice h1 m1 g1)) from ⟨_, rfl, hcr, hkk⟩); obtain ⟨s0, s1, s2, s3, s4, s5⟩ := (RB_3.out.keep kz).chain6 (.bool b0) (.slice a0 n0 c0) (.slice h0 m0 g0) (.bool b1) (.slice a1 n1 c1) (.slice h1 m1 g1); obtain ⟨r0, r1, r2, r3, r4, r5, t0, t1, t2, t3, t4, t5⟩ := (RB_3.out.keep kz).c6; obtain ⟨yBX_0, yBX_1, yBX_2, -, -, -⟩ := (show Bx (w.heap.size) [.bool xb, .slice xa xn xc, .slice xh xm xg] ((((((wz.setCell ⟨w.heap.size + 1 + 1, 0, none⟩ (.bool b0)).setCell ⟨w.heap.size + 1 + 1, 1, none⟩ (.slice a0 n0 c0)).setCell ⟨w.heap.size + 1 + 1, 2, none⟩ (.slice h0 m0 g0)).setCell ⟨w.heap.size + 1 + 1, 3, none⟩ (.bool b1)).setCell ⟨w.heap.size + 1 + 1, 4, none⟩ (.slice a1 n1 c1)).setCell ⟨w.heap.size + 1 + 1, 5, none⟩ (.slice h1 m1 g1)) from ((BX_3.out.keep kz).other (g' := w.heap.size + 1 + 1) 0 [.bool b0, .slice a0 n0 c0, .slice h0 m0 g0, .bool b1, .slice a1 n1 c1, .slice h1 m1 g1] (by omega))).c3; obtain ⟨zBX_0, zBX_1, zBX_2, -, -, -⟩ := (BX_3.out.keep kz).c3; obtain ⟨yBY_0, yBY_1, yBY_2, -, -, -⟩ := (show Bx (w.heap.size + 1) [.bool yb, .slice ya yn yc, .slice yh ym yg] ((((((wz.setCell ⟨w.heap.size + 1 + 1, 0, none⟩ (.bool b0)).setCell ⟨w.heap.size + 1 + 1, 1, none⟩ (.slice a0 n0 c0)).setCell ⟨w.heap.size + 1 + 1, 2, none⟩ (.slice h0 m0 g0)).setCell ⟨w.heap.size + 1 + 1, 3, none⟩ (.bool b1)).setCell ⟨w.heap.size + 1 + 1, 4, none⟩ (.slice a1 n1 c1)).setCell ⟨w.heap.size + 1 + 1, 5, none⟩ (.slice h1 m1 g1)) from ((BY_3.out.keep kz).other (g' := w.heap.size + 1 + 1) 0 [.bool b0, .slice a0 n0 c0, .slice h0 m0 g0, .bool b1, .slice a1 n1 c1, .slice h1 m1 g1] (by omega))).c3; obtain ⟨zBY_0, zBY_1, zBY_2, -, -, -⟩ := (BY_3.out.keep kz).c3; clear hcr hkk hu kz))
      | (go_at_call 57; ((with_reducible refine Calls.mono (CX.out _ X_2.out) ?_); rintro e w3 ⟨x1, rfl, hU, k3⟩; have BX_3 := Lib.hid (BX_2.out.keep k3); have BY_3 := Lib.hid (BY_2.out.keep k3); have RB_3 := Lib.hid (RB_2.out.keep k3); have X_3 := Lib.hid (X_2.out.keep k3); have Y_3 := Lib.hid (Y_2.out.keep k3); have U_3 := Lib.hid hU; clear hU; have KW_3 := Lib.hid (KW_2.out.trans k3); obtain ⟨cBX_3_0, cBX_3_1, cBX_3_2, -, -, -⟩ := BX_3.out.c3; obtain ⟨cBY_3_0, cBY_3_1, cBY_3_2, -, -, -⟩ := BY_3.out.c3; clear k3)))
  all_goals
    go_wp2
    refine bodyPost_ret (v := .tuple #[.agg #[.bool b0, .slice a0 n0 c0, .slice h0 m0 g0, .bool b1, .slice a1 n1 c1, .slice h1 m1 g1], .int .i64 0]) (by simp [results, Tryd.results19, go_sem, s0, s1, s2, s3, s4, s5]) rfl ?_
    exact FIN.out
set_option maxHeartbeats 800000 in
theorem rimake_1 {w : World} {vx vy : Value} {p q : Rat} {k : Nat} (hx : Ra w vx p k) (hy : Ra w vy q k) (hk : k ≤ 100000) (hk1 : 1 ≤ k) (hc : 0 < rC p q) : Calls Tryd.prog 19 #[vx, vy] w (J2Post 0 0 (.int .i64 2) w) := by
  obtain ⟨xb, xa, xn, xc, xh, xm, xg, rfl, hxv⟩ := hx.fv
  obtain ⟨yb, ya, yn, yc, yh, ym, yg, rfl, hyv⟩ := hy.fv
  have KW_0 := Lib.hid (show Keep w (((w.alloc (.cells #[.bool xb, .slice xa xn xc, .slice xh xm xg] 32)).alloc (.cells #[.bool yb, .slice ya yn yc, .slice yh ym yg] 32)).alloc (.cells #[.bool false, .slice none 0 0, .slice none 0 0, .bool false, .slice none 0 0, .slice none 0 0] 35)) from (Keep.alloc (Keep.alloc (Keep.alloc (Keep.refl _) _) _) _))
  have BX_0 := Lib.hid (show Bx (w.heap.size) [.bool xb, .slice xa xn xc, .slice xh xm xg] (((w.alloc (.cells #[.bool xb, .slice xa xn xc, .slice xh xm xg] 32)).alloc (.cells #[.bool yb, .slice ya yn yc, .slice yh ym yg] 32)).alloc (.cells #[.bool false, .slice none 0 0, .slice none 0 0, .bool false, .slice none 0 0, .slice none 0 0] 35)) from ((Bx.new w 32 (.b _ (.s _ _ _ (.s _ _ _ .nil)))).at (g' := w.heap.size) (by simp)).keep (Keep.alloc (Keep.alloc (Keep.refl _) _) _))
  have BY_0 := Lib.hid (show Bx (w.heap.size + 1) [.bool yb, .slice ya yn yc, .slice yh ym yg] (((w.alloc (.cells #[.bool xb, .slice xa xn xc, .slice xh xm xg] 32)).alloc (.cells #[.bool yb, .slice ya yn yc, .slice yh ym yg] 32)).alloc (.cells #[.bool false, .slice none 0 0, .slice none 0 0, .bool false, .slice none 0 0, .slice none 0 0] 35)) from ((Bx.new (w.alloc (.cells #[.bool xb, .slice xa xn xc, .slice xh xm xg] 32)) 32 (.b _ (.s _ _ _ (.s _ _ _ .nil)))).at (g' := w.heap.size + 1) (by simp)).keep (Keep.alloc (Keep.refl _) _))
  have RB_0 := Lib.hid (show Bx (w.heap.size + 1 + 1) [.bool false, .slice none 0 0, .slice none 0 0, .bool false, .slice none 0 0, .slice none 0 0] (((w.alloc (.cells #[.bool xb, .slice xa xn xc, .slice xh xm xg] 32)).alloc (.cells #[.bool yb, .slice ya yn yc, .slice yh ym yg] 32)).alloc (.cells #[.bool false, .slice none 0 0, .slice none 0 0, .bool false, .slice none 0 0, .slice none 0 0] 35)) from ((Bx.new ((w.alloc (.cells #[.bool xb, .slice xa xn xc, .slice xh xm xg] 32)).alloc (.cells #[.bool yb, .slice ya yn yc, .slice yh ym yg] 32)) 35 (.b _ (.s _ _ _ (.s _ _ _ (.b _ (.s _ _ _ (.s _ _ _ .nil))))))).at (g' := w.heap.size + 1 + 1) (by simp)).keep (Keep.refl _))
  have X_0 := Lib.hid (hxv.keep KW_0.out)
  have Y_0 := Lib.hid (hyv.keep KW_0.out)
  have CP := Lib.hid (fun w1 (h : Ra w1 (.agg #[.bool xb, .slice xa xn xc, .slice xh xm xg]) p k) (h' : Ra w1 (.agg #[.bool yb, .slice ya yn yc, .slice yh ym yg]) q k) => rqcmp_c h h' hk hk1)
  obtain ⟨z, hz⟩ : ∃ z, rC p q = z := ⟨_, rfl⟩
  rw [hz] at CP hc
  have hd : decide (0 < z) = true := by simpa using hc
  clear hz hc hxv hyv
  go_enter Tryd.func19, Tryd.ntmps19
  obtain ⟨BX_c0, BX_c1, BX_c2, -, -, -⟩ := BX_0.out.c3
  obtain ⟨BY_c0, BY_c1, BY_c2, -, -, -⟩ := BY_0.out.c3
  obtain ⟨RB_c0, RB_c1, RB_c2, RB_c3, RB_c4, RB_c5, -, -, -, -, -, -⟩ := RB_0.out.c6
  go_wp2_with fail
  refine Calls.mono (CP.out _ X_0.out Y_0.out) ?_
  rintro e w1 ⟨rfl, k1⟩
  clear BX_c0 BX_c1 BX_c2 BY_c0 BY_c1 BY_c2 RB_c0 RB_c1 RB_c2 RB_c3 RB_c4 RB_c5
  have BX_1 := Lib.hid (BX_0.out.keep k1)
  have BY_1 := Lib.hid (BY_0.out.keep k1)
  have RB_1 := Lib.hid (RB_0.out.keep k1)
  have X_1 := Lib.hid (X_0.out.keep k1)
  have Y_1 := Lib.hid (Y_0.out.keep k1)
  have KW_1 := Lib.hid (KW_0.out.trans k1)
  clear k1 BX_0 BY_0 RB_0 X_0 Y_0 KW_0
  obtain ⟨BX_c0, BX_c1, BX_c2, -, -, -⟩ := BX_1.out.c3
  obtain ⟨BY_c0, BY_c1, BY_c2, -, -, -⟩ := BY_1.out.c3
  obtain ⟨RB_c0, RB_c1, RB_c2, RB_c3, RB_c4, RB_c5, RB_f0, RB_f1, RB_f2, RB_f3, RB_f4, RB_f5⟩ := RB_1.out.c6
  obtain ⟨s0, s1, s2, s3, s4, s5⟩ := RB_1.out.chain6 (.bool false) (.slice none 0 0) (.slice none 0 0) (.bool false) (.slice none 0 0) (.slice none 0 0)
  have FIN := Lib.hid (show J2Post 0 0 (.int .i64 2) w (.returned (.tuple #[.agg #[.bool false, .slice none 0 0, .slice none 0 0, .bool false, .slice none 0 0, .slice none 0 0], .int .i64 2])) ((((((w1.setCell ⟨w.heap.size + 1 + 1, 0, none⟩ (.bool false)).setCell ⟨w.heap.size + 1 + 1, 1, none⟩ (.slice none 0 0)).setCell ⟨w.heap.size + 1 + 1, 2, none⟩ (.slice none 0 0)).setCell ⟨w.heap.size + 1 + 1, 3, none⟩ (.bool false)).setCell ⟨w.heap.size + 1 + 1, 4, none⟩ (.slice none 0 0)).setCell ⟨w.heap.size + 1 + 1, 5, none⟩ (.slice none 0 0)) from ⟨_, rfl, ICr.zero _, KW_1.out.sets (g := w.heap.size + 1 + 1) (by omega) 0 [.bool false, .slice none 0 0, .slice none 0 0, .bool false, .slice none 0 0, .slice none 0 0]⟩)
  go_wp2
  refine bodyPost_ret (v := .tuple #[.agg #[.bool false, .slice none 0 0, .slice none 0 0, .bool false, .slice none 0 0, .slice none 0 0], .int .i64 2]) (by simp [results, Tryd.results19, go_sem, s0, s1, s2, s3, s4, s5]) rfl ?_
  exact FIN.out
set_option maxHeartbeats 800000 in
theorem ijoin {w : World} {vx vy : Value} {p q r s : Rat} {k : Nat} (hx : IRa w vx p q k) (hy : IRa w vy r s k) (hk : k < 48) (hk1 : 1 ≤ k) (hT : Tab w)  : Calls Tryd.prog 34 #[vx, vy] w (JPost (rmin p r) (rmax q s) w) := by
  obtain ⟨xlb, xla, xln, xlc, xlh, xlm, xlg, xub, xua, xun, xuc, xuh, xum, xug, rfl, hxl, hxu⟩ := hx
  obtain ⟨ylb, yla, yln, ylc, ylh, ylm, ylg, yub, yua, yun, yuc, yuh, yum, yug, rfl, hyl, hyu⟩ := hy
  have KW_0 := Lib.hid (show Keep w (((w.alloc (.cells #[.bool xlb, .slice xla xln xlc, .slice xlh xlm xlg, .bool xub, .slice xua xun xuc, .slice xuh xum xug] 35)).alloc (.cells #[.bool ylb, .slice yla yln ylc, .slice ylh ylm ylg, .bool yub, .slice yua yun yuc, .slice yuh yum yug] 35)).alloc (.cells #[.bool false, .slice none 0 0, .slice none 0 0, .bool false, .slice none 0 0, .slice none 0 0] 35)) from (Keep.alloc (Keep.alloc (Keep.alloc (Keep.refl _) _) _) _))
  have BX_0 := Lib.hid (show Bx (w.heap.size) [.bool xlb, .slice xla xln xlc, .slice xlh xlm xlg, .bool xub, .slice xua xun xuc, .slice xuh xum xug] (((w.alloc (.cells #[.bool xlb, .slice xla xln xlc, .slice xlh xlm xlg, .bool xub, .slice xua xun xuc, .slice xuh xum xug] 35)).alloc (.cells #[.bool ylb, .slice yla yln ylc, .slice ylh ylm ylg, .bool yub, .slice yua yun yuc, .slice yuh yum yug] 35)).alloc (.cells #[.bool false, .slice none 0 0, .slice none 0 0, .bool false, .slice none 0 0, .slice none 0 0] 35)) from ((Bx.new w 35 (.b _ (.s _ _ _ (.s _ _ _ (.b _ (.s _ _ _ (.s _ _ _ .nil))))))).at (g' := w.heap.size) (by simp)).keep (Keep.alloc (Keep.alloc (Keep.refl _) _) _))
  have BY_0 := Lib.hid (show Bx (w.heap.size + 1) [.bool ylb, .slice yla yln ylc, .slice ylh ylm ylg, .bool yub, .slice yua yun yuc, .slice yuh yum yug] (((w.alloc (.cells #[.bool xlb, .slice xla xln xlc, .slice xlh xlm xlg, .bool xub, .slice xua xun xuc, .slice xuh xum xug] 35)).alloc (.cells #[.bool ylb, .slice yla yln ylc, .slice ylh ylm ylg, .bool yub, .slice yua yun yuc, .slice yuh yum yug] 35)).alloc (.cells #[.bool false, .slice none 0 0, .slice none 0 0, .bool false, .slice none 0 0, .slice none 0 0] 35)) from ((Bx.new (w.alloc (.cells #[.bool xlb, .slice xla xln xlc, .slice xlh xlm xlg, .bool xub, .slice xua xun xuc, .slice xuh xum xug] 35)) 35 (.b _ (.s _ _ _ (.s _ _ _ (.b _ (.s _ _ _ (.s _ _ _ .nil))))))).at (g' := w.heap.size + 1) (by simp)).keep (Keep.alloc (Keep.refl _) _))
  have RB_0 := Lib.hid (show Bx (w.heap.size + 1 + 1) [.bool false, .slice none 0 0, .slice none 0 0, .bool false, .slice none 0 0, .slice none 0 0] (((w.alloc (.cells #[.bool xlb, .slice xla xln xlc, .slice xlh xlm xlg, .bool xub, .slice xua xun xuc, .slice xuh xum xug] 35)).alloc (.cells #[.bool ylb, .slice yla yln ylc, .slice ylh ylm ylg, .bool yub, .slice yua yun yuc, .slice yuh yum yug] 35)).alloc (.cells #[.bool false, .slice none 0 0, .slice none 0 0, .bool false, .slice none 0 0, .slice none 0 0] 35)) from ((Bx.new ((w.alloc (.cells #[.bool xlb, .slice xla xln xlc, .slice xlh xlm xlg, .bool xub, .slice xua xun xuc, .slice xuh xum xug] 35)).alloc (.cells #[.bool ylb, .slice yla yln ylc, .slice ylh ylm ylg, .bool yub, .slice yua yun yuc, .slice yuh yum yug] 35)) 35 (.b _ (.s _ _ _ (.s _ _ _ (.b _ (.s _ _ _ (.s _ _ _ .nil))))))).at (g' := w.heap.size + 1 + 1) (by simp)).keep (Keep.refl _))
  have XL_0 := Lib.hid (hxl.keep KW_0.out)
  have XU_0 := Lib.hid (hxu.keep KW_0.out)
  have YL_0 := Lib.hid (hyl.keep KW_0.out)
  have YU_0 := Lib.hid (hyu.keep KW_0.out)
  have T_0 := Lib.hid (hT.keep KW_0.out)
  have C1 := Lib.hid (fun w1 (h : Ra w1 (.agg #[.bool xlb, .slice xla xln xlc, .slice xlh xlm xlg]) p k) (h' : Ra w1 (.agg #[.bool ylb, .slice yla yln ylc, .slice ylh ylm ylg]) r k) (hT1 : Tab w1) => qmin_c h h' hk hk1 hT1)
  have C2 := Lib.hid (fun w1 (h : Ra w1 (.agg #[.bool xub, .slice xua xun xuc, .slice xuh xum xug]) q k) (h' : Ra w1 (.agg #[.bool yub, .slice yua yun yuc, .slice yuh yum yug]) s k) (hT1 : Tab w1) => qmax_c h h' hk hk1 hT1)
  rw [rmin_def] at C1
  rw [rmax_def] at C2
  clear hxl hxu hyl hyu hT
  go_enter Tryd.func34, Tryd.ntmps34
  obtain ⟨oRB_0, oRB_1, oRB_2, oRB_3, oRB_4, oRB_5, qRB_0, qRB_1, qRB_2, qRB_3, qRB_4, qRB_5⟩ := RB_0.out.c6
  obtain ⟨oBX_0, oBX_1, oBX_2, oBX_3, oBX_4, oBX_5, qBX_0, qBX_1, qBX_2, qBX_3, qBX_4, qBX_5⟩ := BX_0.out.c6
  obtain ⟨oBY_0, oBY_1, oBY_2, oBY_3, oBY_4, oBY_5, qBY_0, qBY_1, qBY_2, qBY_3, qBY_4, qBY_5⟩ := BY_0.out.c6
  have BX_1 := Lib.hid (BX_0.out.keep (keep_drew _))
  clear BX_0
  have BY_1 := Lib.hid (BY_0.out.keep (keep_drew _))
  clear BY_0
  have RB_1 := Lib.hid (RB_0.out.keep (keep_drew _))
  clear RB_0
  have XL_1 := Lib.hid (XL_0.out.keep (keep_drew _))
  clear XL_0
  have XU_1 := Lib.hid (XU_0.out.keep (keep_drew _))
  clear XU_0
  have YL_1 := Lib.hid (YL_0.out.keep (keep_drew _))
  clear YL_0
  have YU_1 := Lib.hid (YU_0.out.keep (keep_drew _))
  clear YU_0
  have T_1 := Lib.hid (T_0.out.keep (keep_drew _))
  clear T_0
  have KW_1 := Lib.hid (KW_0.out.trans (keep_drew _))
  clear KW_0
  obtain ⟨cBX_1_0, cBX_1_1, cBX_1_2, cBX_1_3, cBX_1_4, cBX_1_5, -, -, -, -, -, -⟩ := BX_1.out.c6
  obtain ⟨cBY_1_0, cBY_1_1, cBY_1_2, cBY_1_3, cBY_1_4, cBY_1_5, -, -, -, -, -, -⟩ := BY_1.out.c6
  go_wp2
  go_region_held3 (fun w' => w'.cell? ⟨w.heap.size, 0, none⟩ = some (.bool xlb) ∧ w'.cell? ⟨w.heap.size, 1, none⟩ = some (.slice xla xln xlc) ∧ w'.cell? ⟨w.heap.size, 2, none⟩ = some (.slice xlh xlm xlg) ∧ w'.cell? ⟨w.heap.size, 3, none⟩ = some (.bool xub) ∧ w'.cell? ⟨w.heap.size, 4, none⟩ = some (.slice xua xun xuc) ∧ w'.cell? ⟨w.heap.size, 5, none⟩ = some (.slice xuh xum xug) ∧ w'.cell? ⟨w.heap.size + 1, 0, none⟩ = some (.bool ylb) ∧ w'.cell? ⟨w.heap.size + 1, 1, none⟩ = some (.slice yla yln ylc) ∧ w'.cell? ⟨w.heap.size + 1, 2, none⟩ = some (.slice ylh ylm ylg) ∧ w'.cell? ⟨w.heap.size + 1, 3, none⟩ = some (.bool yub) ∧ w'.cell? ⟨w.heap.size + 1, 4, none⟩ = some (.slice yua yun yuc) ∧ w'.cell? ⟨w.heap.size + 1, 5, none⟩ = some (.slice yuh yum yug)) (first | with_reducible exact ⟨yBX_0, yBX_1, yBX_2, yBX_3, yBX_4, yBX_5, yBY_0, yBY_1, yBY_2, yBY_3, yBY_4, yBY_5⟩ | with_reducible exact ⟨zBX_0, zBX_1, zBX_2, zBX_3, zBX_4, zBX_5, zBY_0, zBY_1, zBY_2, zBY_3, zBY_4, zBY_5⟩ | with_reducible exact ⟨cBX_2_0, cBX_2_1, cBX_2_2, cBX_2_3, cBX_2_4, cBX_2_5, cBY_2_0, cBY_2_1, cBY_2_2, cBY_2_3, cBY_2_4, cBY_2_5⟩ | with_reducible exact ⟨cBX_1_0, cBX_1_1, cBX_1_2, cBX_1_3, cBX_1_4, cBX_1_5, cBY_1_0, cBY_1_1, cBY_1_2, cBY_1_3, cBY_1_4, cBY_1_5⟩ | go_keep)
    (first
      | (go_at_call 62; ((with_reducible refine Calls.mono (C2.out _ XU_2.out YU_2.out T_2.out) ?_); rintro e wz ⟨u, rfl, hu, kz⟩; obtain ⟨b0, a0, n0, c0, h0, m0, g0, b1, a1, n1, c1, h1, m1, g1, rfl, rfl, hcr, hkk, -⟩ := ICr.put (U_2.out.keep kz) hu (RB_2.out.keep kz) rfl (KW_2.out.trans kz) (by omega); have FIN := Lib.hid (show JPost (rmin p r) (rmax q s) w (.returned (.agg #[.bool b0, .slice a0 n0 c0, .slice h0 m0 g0, .bool b1, .slice a1 n1 c1, .slice h1 m1 g1])) ((((((wz.setCell ⟨w.heap.size + 1 + 1, 0, none⟩ (.bool b0)).setCell ⟨w.heap.size + 1 + 1, 1, none⟩ (.slice a0 n0 c0)).setCell ⟨w.heap.size + 1 + 1, 2, none⟩ (.slice h0 m0 g0)).setCell ⟨w.heap.size + 1 + 1, 3, none⟩ (.bool b1)).setCell ⟨w.heap.size + 1 + 1, 4, none⟩ (.slice a1 n1 c1)).setCell ⟨w.heap.size + 1 + 1, 5, none⟩ (.slice h1 m1 g1)) from ⟨_, rfl, hcr, hkk⟩); obtain ⟨s0, s1, s2, s3, s4, s5⟩ := (RB_2.out.keep kz).chain6 (.bool b0) (.slice a0 n0 c0) (.slice h0 m0 g0) (.bool b1) (.slice a1 n1 c1) (.slice h1 m1 g1); obtain ⟨r0, r1, r2, r3, r4, r5, t0, t1, t2, t3, t4, t5⟩ := (RB_2.out.keep kz).c6; obtain ⟨yBX_0, yBX_1, yBX_2, yBX_3, yBX_4, yBX_5, -, -, -, -, -, -⟩ := (show Bx (w.heap.size) [.bool xlb, .slice xla xln xlc, .slice xlh xlm xlg, .bool xub, .slice xua xun xuc, .slice xuh xum xug] ((((((wz.setCell ⟨w.heap.size + 1 + 1, 0, none⟩ (.bool b0)).setCell ⟨w.heap.size + 1 + 1, 1, none⟩ (.slice a0 n0 c0)).setCell ⟨w.heap.size + 1 + 1, 2, none⟩ (.slice h0 m0 g0)).setCell ⟨w.heap.size + 1 + 1, 3, none⟩ (.bool b1)).setCell ⟨w.heap.size + 1 + 1, 4, none⟩ (.slice a1 n1 c1)).setCell ⟨w.heap.size + 1 + 1, 5, none⟩ (.slice h1 m1 g1)) from ((BX_2.out.keep kz).other (g' := w.heap.size + 1 + 1) 0 [.bool b0, .slice a0 n0 c0, .slice h0 m0 g0, .bool b1, .slice a1 n1 c1, .slice h1 m1 g1] (by omega))).c6; obtain ⟨zBX_0, zBX_1, zBX_2, zBX_3, zBX_4, zBX_5, -, -, -, -, -, -⟩ := (BX_2.out.keep kz).c6; obtain ⟨yBY_0, yBY_1, yBY_2, yBY_3, yBY_4, yBY_5, -, -, -, -, -, -⟩ := (show Bx (w.heap.size + 1) [.bool ylb, .slice yla yln ylc, .slice ylh ylm ylg, .bool yub, .slice yua yun yuc, .slice yuh yum yug] ((((((wz.setCell ⟨w.heap.size + 1 + 1, 0, none⟩ (.bool b0)).setCell ⟨w.heap.size + 1 + 1, 1, none⟩ (.slice a0 n0 c0)).setCell ⟨w.heap.size + 1 + 1, 2, none⟩ (.slice h0 m0 g0)).setCell ⟨w.heap.size + 1 + 1, 3, none⟩ (.bool b1)).setCell ⟨w.heap.size + 1 + 1, 4, none⟩ (.slice a1 n1 c1)).setCell ⟨w.heap.size + 1 + 1, 5, none⟩ (.slice h1 m1 g1)) from ((BY_2.out.keep kz).other (g' := w.heap.size + 1 + 1) 0 [.bool b0, .slice a0 n0 c0, .slice h0 m0 g0, .bool b1, .slice a1 n1 c1, .slice h1 m1 g1] (by omega))).c6; obtain ⟨zBY_0, zBY_1, zBY_2, zBY_3, zBY_4, zBY_5, -, -, -, -, -, -⟩ := (BY_2.out.keep kz).c6; clear hcr hkk hu kz))
      | (go_at_call 61; ((with_reducible refine Calls.mono (C1.out _ XL_1.out YL_1.out T_1.out) ?_); rintro e w2 ⟨x1, rfl, hU, k2⟩; have BX_2 := Lib.hid (BX_1.out.keep k2); have BY_2 := Lib.hid (BY_1.out.keep k2); have RB_2 := Lib.hid (RB_1.out.keep k2); have XL_2 := Lib.hid (XL_1.out.keep k2); have XU_2 := Lib.hid (XU_1.out.keep k2); have YL_2 := Lib.hid (YL_1.out.keep k2); have YU_2 := Lib.hid (YU_1.out.keep k2); have T_2 := Lib.hid (T_1.out.keep k2); have U_2 := Lib.hid hU; clear hU; have KW_2 := Lib.hid (KW_1.out.trans k2); obtain ⟨cBX_2_0, cBX_2_1, cBX_2_2, cBX_2_3, cBX_2_4, cBX_2_5, -, -, -, -, -, -⟩ := BX_2.out.c6; obtain ⟨cBY_2_0, cBY_2_1, cBY_2_2, cBY_2_3, cBY_2_4, cBY_2_5, -, -, -, -, -, -⟩ := BY_2.out.c6; clear k2)))
  all_goals
    go_wp2
    refine bodyPost_ret (v := .agg #[.bool b0, .slice a0 n0 c0, .slice h0 m0 g0, .bool b1, .slice a1 n1 c1, .slice h1 m1 g1]) (by simp [results, Tryd.results34, go_sem, s0, s1, s2, s3, s4, s5]) rfl ?_
    exact FIN.out
set_option maxHeartbeats 800000 in
theorem rijoin {w : World} {vx vy : Value} {p q r s : Rat} {k : Nat} (hx : IRa w vx p q k) (hy : IRa w vy r s k) (hk : k ≤ 100000) (hk1 : 1 ≤ k)  : Calls Tryd.prog 37 #[vx, vy] w (JPost (rmin p r) (rmax q s) w) := by
  obtain ⟨xlb, xla, xln, xlc, xlh, xlm, xlg, xub, xua, xun, xuc, xuh, xum, xug, rfl, hxl, hxu⟩ := hx
  obtain ⟨ylb, yla, yln, ylc, ylh, ylm, ylg, yub, yua, yun, yuc, yuh, yum, yug, rfl, hyl, hyu⟩ := hy
  have KW_0 := Lib.hid (show Keep w (((w.alloc (.cells #[.bool xlb, .slice xla xln xlc, .slice xlh xlm xlg, .bool xub, .slice xua xun xuc, .slice xuh xum xug] 35)).alloc (.cells #[.bool ylb, .slice yla yln ylc, .slice ylh ylm ylg, .bool yub, .slice yua yun yuc, .slice yuh yum yug] 35)).alloc (.cells #[.bool false, .slice none 0 0, .slice none 0 0, .bool false, .slice none 0 0, .slice none 0 0] 35)) from (Keep.alloc (Keep.alloc (Keep.alloc (Keep.refl _) _) _) _))
  have BX_0 := Lib.hid (show Bx (w.heap.size) [.bool xlb, .slice xla xln xlc, .slice xlh xlm xlg, .bool xub, .slice xua xun xuc, .slice xuh xum xug] (((w.alloc (.cells #[.bool xlb, .slice xla xln xlc, .slice xlh xlm xlg, .bool xub, .slice xua xun xuc, .slice xuh xum xug] 35)).alloc (.cells #[.bool ylb, .slice yla yln ylc, .slice ylh ylm ylg, .bool yub, .slice yua yun yuc, .slice yuh yum yug] 35)).alloc (.cells #[.bool false, .slice none 0 0, .slice none 0 0, .bool false, .slice none 0 0, .slice none 0 0] 35)) from ((Bx.new w 35 (.b _ (.s _ _ _ (.s _ _ _ (.b _ (.s _ _ _ (.s _ _ _ .nil))))))).at (g' := w.heap.size) (by simp)).keep (Keep.alloc (Keep.alloc (Keep.refl _) _) _))
  have BY_0 := Lib.hid (show Bx (w.heap.size + 1) [.bool ylb, .slice yla yln ylc, .slice ylh ylm ylg, .bool yub, .slice yua yun yuc, .slice yuh yum yug] (((w.alloc (.cells #[.bool xlb, .slice xla xln xlc, .slice xlh xlm xlg, .bool xub, .slice xua xun xuc, .slice xuh xum xug] 35)).alloc (.cells #[.bool ylb, .slice yla yln ylc, .slice ylh ylm ylg, .bool yub, .slice yua yun yuc, .slice yuh yum yug] 35)).alloc (.cells #[.bool false, .slice none 0 0, .slice none 0 0, .bool false, .slice none 0 0, .slice none 0 0] 35)) from ((Bx.new (w.alloc (.cells #[.bool xlb, .slice xla xln xlc, .slice xlh xlm xlg, .bool xub, .slice xua xun xuc, .slice xuh xum xug] 35)) 35 (.b _ (.s _ _ _ (.s _ _ _ (.b _ (.s _ _ _ (.s _ _ _ .nil))))))).at (g' := w.heap.size + 1) (by simp)).keep (Keep.alloc (Keep.refl _) _))
  have RB_0 := Lib.hid (show Bx (w.heap.size + 1 + 1) [.bool false, .slice none 0 0, .slice none 0 0, .bool false, .slice none 0 0, .slice none 0 0] (((w.alloc (.cells #[.bool xlb, .slice xla xln xlc, .slice xlh xlm xlg, .bool xub, .slice xua xun xuc, .slice xuh xum xug] 35)).alloc (.cells #[.bool ylb, .slice yla yln ylc, .slice ylh ylm ylg, .bool yub, .slice yua yun yuc, .slice yuh yum yug] 35)).alloc (.cells #[.bool false, .slice none 0 0, .slice none 0 0, .bool false, .slice none 0 0, .slice none 0 0] 35)) from ((Bx.new ((w.alloc (.cells #[.bool xlb, .slice xla xln xlc, .slice xlh xlm xlg, .bool xub, .slice xua xun xuc, .slice xuh xum xug] 35)).alloc (.cells #[.bool ylb, .slice yla yln ylc, .slice ylh ylm ylg, .bool yub, .slice yua yun yuc, .slice yuh yum yug] 35)) 35 (.b _ (.s _ _ _ (.s _ _ _ (.b _ (.s _ _ _ (.s _ _ _ .nil))))))).at (g' := w.heap.size + 1 + 1) (by simp)).keep (Keep.refl _))
  have XL_0 := Lib.hid (hxl.keep KW_0.out)
  have XU_0 := Lib.hid (hxu.keep KW_0.out)
  have YL_0 := Lib.hid (hyl.keep KW_0.out)
  have YU_0 := Lib.hid (hyu.keep KW_0.out)
  have C1 := Lib.hid (fun w1 (h : Ra w1 (.agg #[.bool xlb, .slice xla xln xlc, .slice xlh xlm xlg]) p k) (h' : Ra w1 (.agg #[.bool ylb, .slice yla yln ylc, .slice ylh ylm ylg]) r k) => rqmin_c h h' hk hk1)
  have C2 := Lib.hid (fun w1 (h : Ra w1 (.agg #[.bool xub, .slice xua xun xuc, .slice xuh xum xug]) q k) (h' : Ra w1 (.agg #[.bool yub, .slice yua yun yuc, .slice yuh yum yug]) s k) => rqmax_c h h' hk hk1)
  rw [rmin_def] at C1
  rw [rmax_def] at C2
  clear hxl hxu hyl hyu
  go_enter Tryd.func37, Tryd.ntmps37
  obtain ⟨oRB_0, oRB_1, oRB_2, oRB_3, oRB_4, oRB_5, qRB_0, qRB_1, qRB_2, qRB_3, qRB_4, qRB_5⟩ := RB_0.out.c6
  obtain ⟨oBX_0, oBX_1, oBX_2, oBX_3, oBX_4, oBX_5, qBX_0, qBX_1, qBX_2, qBX_3, qBX_4, qBX_5⟩ := BX_0.out.c6
  obtain ⟨oBY_0, oBY_1, oBY_2, oBY_3, oBY_4, oBY_5, qBY_0, qBY_1, qBY_2, qBY_3, qBY_4, qBY_5⟩ := BY_0.out.c6
  have BX_1 := Lib.hid (BX_0.out.keep (keep_drew _))
  clear BX_0
  have BY_1 := Lib.hid (BY_0.out.keep (keep_drew _))
  clear BY_0
  have RB_1 := Lib.hid (RB_0.out.keep (keep_drew _))
  clear RB_0
  have XL_1 := Lib.hid (XL_0.out.keep (keep_drew _))
  clear XL_0
  have XU_1 := Lib.hid (XU_0.out.keep (keep_drew _))
  clear XU_0
  have YL_1 := Lib.hid (YL_0.out.keep (keep_drew _))
  clear YL_0
  have YU_1 := Lib.hid (YU_0.out.keep (keep_drew _))
  clear YU_0
  have KW_1 := Lib.hid (KW_0.out.trans (keep_drew _))
  clear KW_0
  obtain ⟨cBX_1_0, cBX_1_1, cBX_1_2, cBX_1_3, cBX_1_4, cBX_1_5, -, -, -, -, -, -⟩ := BX_1.out.c6
  obtain ⟨cBY_1_0, cBY_1_1, cBY_1_2, cBY_1_3, cBY_1_4, cBY_1_5, -, -, -, -, -, -⟩ := BY_1.out.c6
  go_wp2
  go_region_held3 (fun w' => w'.cell? ⟨w.heap.size, 0, none⟩ = some (.bool xlb) ∧ w'.cell? ⟨w.heap.size, 1, none⟩ = some (.slice xla xln xlc) ∧ w'.cell? ⟨w.heap.size, 2, none⟩ = some (.slice xlh xlm xlg) ∧ w'.cell? ⟨w.heap.size, 3, none⟩ = some (.bool xub) ∧ w'.cell? ⟨w.heap.size, 4, none⟩ = some (.slice xua xun xuc) ∧ w'.cell? ⟨w.heap.size, 5, none⟩ = some (.slice xuh xum xug) ∧ w'.cell? ⟨w.heap.size + 1, 0, none⟩ = some (.bool ylb) ∧ w'.cell? ⟨w.heap.size + 1, 1, none⟩ = some (.slice yla yln ylc) ∧ w'.cell? ⟨w.heap.size + 1, 2, none⟩ = some (.slice ylh ylm ylg) ∧ w'.cell? ⟨w.heap.size + 1, 3, none⟩ = some (.bool yub) ∧ w'.cell? ⟨w.heap.size + 1, 4, none⟩ = some (.slice yua yun yuc) ∧ w'.cell? ⟨w.heap.size + 1, 5, none⟩ = some (.slice yuh yum yug)) (first | with_reducible exact ⟨yBX_0, yBX_1, yBX_2, yBX_3, yBX_4, yBX_5, yBY_0, yBY_1, yBY_2, yBY_3, yBY_4, yBY_5⟩ | with_reducible exact ⟨zBX_0, zBX_1, zBX_2, zBX_3, zBX_4, zBX_5, zBY_0, zBY_1, zBY_2, zBY_3, zBY_4, zBY_5⟩ | with_reducible exact ⟨cBX_2_0, cBX_2_1, cBX_2_2, cBX_2_3, cBX_2_4, cBX_2_5, cBY_2_0, cBY_2_1, cBY_2_2, cBY_2_3, cBY_2_4, cBY_2_5⟩ | with_reducible exact ⟨cBX_1_0, cBX_1_1, cBX_1_2, cBX_1_3, cBX_1_4, cBX_1_5, cBY_1_0, cBY_1_1, cBY_1_2, cBY_1_3, cBY_1_4, cBY_1_5⟩ | go_keep)
    (first
      | (go_at_call 32; ((with_reducible refine Calls.mono (C2.out _ XU_2.out YU_2.out) ?_); rintro e wz ⟨u, rfl, hu, kz⟩; obtain ⟨b0, a0, n0, c0, h0, m0, g0, b1, a1, n1, c1, h1, m1, g1, rfl, rfl, hcr, hkk, -⟩ := ICr.put (U_2.out.keep kz) hu (RB_2.out.keep kz) rfl (KW_2.out.trans kz) (by omega); have FIN := Lib.hid (show JPost (rmin p r) (rmax q s) w (.returned (.agg #[.bool b0, .slice a0 n0 c0, .slice h0 m0 g0, .bool b1, .slice a1 n1 c1, .slice h1 m1 g1])) ((((((wz.setCell ⟨w.heap.size + 1 + 1, 0, none⟩ (.bool b0)).setCell ⟨w.heap.size + 1 + 1, 1, none⟩ (.slice a0 n0 c0)).setCell ⟨w.heap.size + 1 + 1, 2, none⟩ (.slice h0 m0 g0)).setCell ⟨w.heap.size + 1 + 1, 3, none⟩ (.bool b1)).setCell ⟨w.heap.size + 1 + 1, 4, none⟩ (.slice a1 n1 c1)).setCell ⟨w.heap.size + 1 + 1, 5, none⟩ (.slice h1 m1 g1)) from ⟨_, rfl, hcr, hkk⟩); obtain ⟨s0, s1, s2, s3, s4, s5⟩ := (RB_2.out.keep kz).chain6 (.bool b0) (.slice a0 n0 c0) (.slice h0 m0 g0) (.bool b1) (.slice a1 n1 c1) (.slice h1 m1 g1); obtain ⟨r0, r1, r2, r3, r4, r5, t0, t1, t2, t3, t4, t5⟩ := (RB_2.out.keep kz).c6; obtain ⟨yBX_0, yBX_1, yBX_2, yBX_3, yBX_4, yBX_5, -, -, -, -, -, -⟩ := (show Bx (w.heap.size) [.bool xlb, .slice xla xln xlc, .slice xlh xlm xlg, .bool xub, .slice xua xun xuc, .slice xuh xum xug] ((((((wz.setCell ⟨w.heap.size + 1 + 1, 0, none⟩ (.bool b0)).setCell ⟨w.heap.size + 1 + 1, 1, none⟩ (.slice a0 n0 c0)).setCell ⟨w.heap.size + 1 + 1, 2, none⟩ (.slice h0 m0 g0)).setCell ⟨w.heap.size + 1 + 1, 3, none⟩ (.bool b1)).setCell ⟨w.heap.size + 1 + 1, 4, none⟩ (.slice a1 n1 c1)).setCell ⟨w.heap.size + 1 + 1, 5, none⟩ (.slice h1 m1 g1)) from ((BX_2.out.keep kz).other (g' := w.heap.size + 1 + 1) 0 [.bool b0, .slice a0 n0 c0, .slice h0 m0 g0, .bool b1, .slice a1 n1 c1, .slice h1 m1 g1] (by omega))).c6; obtain ⟨zBX_0, zBX_1, zBX_2, zBX_3, zBX_4, zBX_5, -, -, -, -, -, -⟩ := (BX_2.out.keep kz).c6; obtain ⟨yBY_0, yBY_1, yBY_2, yBY_3, yBY_4, yBY_5, -, -, -, -, -, -⟩ := (show Bx (w.heap.size + 1) [.bool ylb, .slice yla yln ylc, .slice ylh ylm ylg, .bool yub, .slice yua yun yuc, .slice yuh yum yug] ((((((wz.setCell ⟨w.heap.size + 1 + 1, 0, none⟩ (.bool b0)).setCell ⟨w.heap.size + 1 + 1, 1, none⟩ (.slice a0 n0 c0)).setCell ⟨w.heap.size + 1 + 1, 2, none⟩ (.slice h0 m0 g0)).setCell ⟨w.heap.size + 1 + 1, 3, none⟩ (.bool b1)).setCell ⟨w.heap.size + 1 + 1, 4, none⟩ (.slice a1 n1 c1)).setCell ⟨w.heap.size + 1 + 1, 5, none⟩ (.slice h1 m1 g1)) from ((BY_2.out.keep kz).other (g' := w.heap.size + 1 + 1) 0 [.bool b0, .slice a0 n0 c0, .slice h0 m0 g0, .bool b1, .slice a1 n1 c1, .slice h1 m1 g1] (by omega))).c6; obtain ⟨zBY_0, zBY_1, zBY_2, zBY_3, zBY_4, zBY_5, -, -, -, -, -, -⟩ := (BY_2.out.keep kz).c6; clear hcr hkk hu kz))
      | (go_at_call 69; ((with_reducible refine Calls.mono (C1.out _ XL_1.out YL_1.out) ?_); rintro e w2 ⟨x1, rfl, hU, k2⟩; have BX_2 := Lib.hid (BX_1.out.keep k2); have BY_2 := Lib.hid (BY_1.out.keep k2); have RB_2 := Lib.hid (RB_1.out.keep k2); have XL_2 := Lib.hid (XL_1.out.keep k2); have XU_2 := Lib.hid (XU_1.out.keep k2); have YL_2 := Lib.hid (YL_1.out.keep k2); have YU_2 := Lib.hid (YU_1.out.keep k2); have U_2 := Lib.hid hU; clear hU; have KW_2 := Lib.hid (KW_1.out.trans k2); obtain ⟨cBX_2_0, cBX_2_1, cBX_2_2, cBX_2_3, cBX_2_4, cBX_2_5, -, -, -, -, -, -⟩ := BX_2.out.c6; obtain ⟨cBY_2_0, cBY_2_1, cBY_2_2, cBY_2_3, cBY_2_4, cBY_2_5, -, -, -, -, -, -⟩ := BY_2.out.c6; clear k2)))
  all_goals
    go_wp2
    refine bodyPost_ret (v := .agg #[.bool b0, .slice a0 n0 c0, .slice h0 m0 g0, .bool b1, .slice a1 n1 c1, .slice h1 m1 g1]) (by simp [results, Tryd.results37, go_sem, s0, s1, s2, s3, s4, s5]) rfl ?_
    exact FIN.out
set_option maxHeartbeats 800000 in
theorem irelu {w : World} {vx : Value} {p q : Rat} {k : Nat} (hx : IRa w vx p q k) (hk : k < 48) (hk1 : 1 ≤ k) (hT : Tab w)  : Calls Tryd.prog 27 #[vx] w (JPost (rmax 0 p) (rmax 0 q) w) := by
  obtain ⟨xlb, xla, xln, xlc, xlh, xlm, xlg, xub, xua, xun, xuc, xuh, xum, xug, rfl, hxl, hxu⟩ := hx
  have KW_0 := Lib.hid (show Keep w ((w.alloc (.cells #[.bool xlb, .slice xla xln xlc, .slice xlh xlm xlg, .bool xub, .slice xua xun xuc, .slice xuh xum xug] 35)).alloc (.cells #[.bool false, .slice none 0 0, .slice none 0 0, .bool false, .slice none 0 0, .slice none 0 0] 35)) from (Keep.alloc (Keep.alloc (Keep.refl _) _) _))
  have BX_0 := Lib.hid (show Bx (w.heap.size) [.bool xlb, .slice xla xln xlc, .slice xlh xlm xlg, .bool xub, .slice xua xun xuc, .slice xuh xum xug] ((w.alloc (.cells #[.bool xlb, .slice xla xln xlc, .slice xlh xlm xlg, .bool xub, .slice xua xun xuc, .slice xuh xum xug] 35)).alloc (.cells #[.bool false, .slice none 0 0, .slice none 0 0, .bool false, .slice none 0 0, .slice none 0 0] 35)) from ((Bx.new w 35 (.b _ (.s _ _ _ (.s _ _ _ (.b _ (.s _ _ _ (.s _ _ _ .nil))))))).at (g' := w.heap.size) (by simp)).keep (Keep.alloc (Keep.refl _) _))
  have RB_0 := Lib.hid (show Bx (w.heap.size + 1) [.bool false, .slice none 0 0, .slice none 0 0, .bool false, .slice none 0 0, .slice none 0 0] ((w.alloc (.cells #[.bool xlb, .slice xla xln xlc, .slice xlh xlm xlg, .bool xub, .slice xua xun xuc, .slice xuh xum xug] 35)).alloc (.cells #[.bool false, .slice none 0 0, .slice none 0 0, .bool false, .slice none 0 0, .slice none 0 0] 35)) from ((Bx.new (w.alloc (.cells #[.bool xlb, .slice xla xln xlc, .slice xlh xlm xlg, .bool xub, .slice xua xun xuc, .slice xuh xum xug] 35)) 35 (.b _ (.s _ _ _ (.s _ _ _ (.b _ (.s _ _ _ (.s _ _ _ .nil))))))).at (g' := w.heap.size + 1) (by simp)).keep (Keep.refl _))
  have XL_0 := Lib.hid (hxl.keep KW_0.out)
  have XU_0 := Lib.hid (hxu.keep KW_0.out)
  have T_0 := Lib.hid (hT.keep KW_0.out)
  have C1 := Lib.hid (fun w1 (h : Ra w1 (.agg #[.bool xlb, .slice xla xln xlc, .slice xlh xlm xlg]) p k) (hT1 : Tab w1) => qmax_c ((Cr.zero w1).ra ⟨(by show 0 < BB ^ k; exact BBk_pos k), one_lt_BB hk1⟩) h hk hk1 hT1)
  have C2 := Lib.hid (fun w1 (h : Ra w1 (.agg #[.bool xub, .slice xua xun xuc, .slice xuh xum xug]) q k) (hT1 : Tab w1) => qmax_c ((Cr.zero w1).ra ⟨(by show 0 < BB ^ k; exact BBk_pos k), one_lt_BB hk1⟩) h hk hk1 hT1)
  rw [rmax_def] at C1 C2
  clear hxl hxu hT
  go_enter Tryd.func27, Tryd.ntmps27
  obtain ⟨oRB_0, oRB_1, oRB_2, oRB_3, oRB_4, oRB_5, qRB_0, qRB_1, qRB_2, qRB_3, qRB_4, qRB_5⟩ := RB_0.out.c6
  obtain ⟨oBX_0, oBX_1, oBX_2, oBX_3, oBX_4, oBX_5, qBX_0, qBX_1, qBX_2, qBX_3, qBX_4, qBX_5⟩ := BX_0.out.c6
  have BX_1 := Lib.hid (BX_0.out.keep (keep_drew _))
  clear BX_0
  have RB_1 := Lib.hid (RB_0.out.keep (keep_drew _))
  clear RB_0
  have XL_1 := Lib.hid (XL_0.out.keep (keep_drew _))
  clear XL_0
  have XU_1 := Lib.hid (XU_0.out.keep (keep_drew _))
  clear XU_0
  have T_1 := Lib.hid (T_0.out.keep (keep_drew _))
  clear T_0
  have KW_1 := Lib.hid (KW_0.out.trans (keep_drew _))
  clear KW_0
  obtain ⟨cBX_1_0, cBX_1_1, cBX_1_2, cBX_1_3, cBX_1_4, cBX_1_5, -, -, -, -, -, -⟩ := BX_1.out.c6
  go_wp2
  go_region_held3 (fun w' => w'.cell? ⟨w.heap.size, 0, none⟩ = some (.bool xlb) ∧ w'.cell? ⟨w.heap.size, 1, none⟩ = some (.slice xla xln xlc) ∧ w'.cell? ⟨w.heap.size, 2, none⟩ = some (.slice xlh xlm xlg) ∧ w'.cell? ⟨w.heap.size, 3, none⟩ = some (.bool xub) ∧ w'.cell? ⟨w.heap.size, 4, none⟩ = some (.slice xua xun xuc) ∧ w'.cell? ⟨w.heap.size, 5, none⟩ = some (.slice xuh xum xug)) (first | with_reducible exact ⟨yBX_0, yBX_1, yBX_2, yBX_3, yBX_4, yBX_5⟩ | with_reducible exact ⟨zBX_0, zBX_1, zBX_2, zBX_3, zBX_4, zBX_5⟩ | with_reducible exact ⟨cBX_2_0, cBX_2_1, cBX_2_2, cBX_2_3, cBX_2_4, cBX_2_5⟩ | with_reducible exact ⟨cBX_1_0, cBX_1_1, cBX_1_2, cBX_1_3, cBX_1_4, cBX_1_5⟩ | go_keep)
    (first
      | (go_at_call 62; ((with_reducible refine Calls.mono (C2.out _ XU_2.out T_2.out) ?_); rintro e wz ⟨u, rfl, hu, kz⟩; obtain ⟨b0, a0, n0, c0, h0, m0, g0, b1, a1, n1, c1, h1, m1, g1, rfl, rfl, hcr, hkk, -⟩ := ICr.put (U_2.out.keep kz) hu (RB_2.out.keep kz) rfl (KW_2.out.trans kz) (by omega); have FIN := Lib.hid (show JPost (rmax 0 p) (rmax 0 q) w (.returned (.agg #[.bool b0, .slice a0 n0 c0, .slice h0 m0 g0, .bool b1, .slice a1 n1 c1, .slice h1 m1 g1])) ((((((wz.setCell ⟨w.heap.size + 1, 0, none⟩ (.bool b0)).setCell ⟨w.heap.size + 1, 1, none⟩ (.slice a0 n0 c0)).setCell ⟨w.heap.size + 1, 2, none⟩ (.slice h0 m0 g0)).setCell ⟨w.heap.size + 1, 3, none⟩ (.bool b1)).setCell ⟨w.heap.size + 1, 4, none⟩ (.slice a1 n1 c1)).setCell ⟨w.heap.size + 1, 5, none⟩ (.slice h1 m1 g1)) from ⟨_, rfl, hcr, hkk⟩); obtain ⟨s0, s1, s2, s3, s4, s5⟩ := (RB_2.out.keep kz).chain6 (.bool b0) (.slice a0 n0 c0) (.slice h0 m0 g0) (.bool b1) (.slice a1 n1 c1) (.slice h1 m1 g1); obtain ⟨r0, r1, r2, r3, r4, r5, t0, t1, t2, t3, t4, t5⟩ := (RB_2.out.keep kz).c6; obtain ⟨yBX_0, yBX_1, yBX_2, yBX_3, yBX_4, yBX_5, -, -, -, -, -, -⟩ := (show Bx (w.heap.size) [.bool xlb, .slice xla xln xlc, .slice xlh xlm xlg, .bool xub, .slice xua xun xuc, .slice xuh xum xug] ((((((wz.setCell ⟨w.heap.size + 1, 0, none⟩ (.bool b0)).setCell ⟨w.heap.size + 1, 1, none⟩ (.slice a0 n0 c0)).setCell ⟨w.heap.size + 1, 2, none⟩ (.slice h0 m0 g0)).setCell ⟨w.heap.size + 1, 3, none⟩ (.bool b1)).setCell ⟨w.heap.size + 1, 4, none⟩ (.slice a1 n1 c1)).setCell ⟨w.heap.size + 1, 5, none⟩ (.slice h1 m1 g1)) from ((BX_2.out.keep kz).other (g' := w.heap.size + 1) 0 [.bool b0, .slice a0 n0 c0, .slice h0 m0 g0, .bool b1, .slice a1 n1 c1, .slice h1 m1 g1] (by omega))).c6; obtain ⟨zBX_0, zBX_1, zBX_2, zBX_3, zBX_4, zBX_5, -, -, -, -, -, -⟩ := (BX_2.out.keep kz).c6; clear hcr hkk hu kz))
      | (go_at_call 62; ((with_reducible refine Calls.mono (C1.out _ XL_1.out T_1.out) ?_); rintro e w2 ⟨x1, rfl, hU, k2⟩; have BX_2 := Lib.hid (BX_1.out.keep k2); have RB_2 := Lib.hid (RB_1.out.keep k2); have XL_2 := Lib.hid (XL_1.out.keep k2); have XU_2 := Lib.hid (XU_1.out.keep k2); have T_2 := Lib.hid (T_1.out.keep k2); have U_2 := Lib.hid hU; clear hU; have KW_2 := Lib.hid (KW_1.out.trans k2); obtain ⟨cBX_2_0, cBX_2_1, cBX_2_2, cBX_2_3, cBX_2_4, cBX_2_5, -, -, -, -, -, -⟩ := BX_2.out.c6; clear k2)))
  all_goals
    go_wp2
    refine bodyPost_ret (v := .agg #[.bool b0, .slice a0 n0 c0, .slice h0 m0 g0, .bool b1, .slice a1 n1 c1, .slice h1 m1 g1]) (by simp [results, Tryd.results27, go_sem, s0, s1, s2, s3, s4, s5]) rfl ?_
    exact FIN.out
set_option maxHeartbeats 800000 in
theorem rirelu {w : World} {vx : Value} {p q : Rat} {k : Nat} (hx : IRa w vx p q k) (hk : k ≤ 100000) (hk1 : 1 ≤ k)  : Calls Tryd.prog 29 #[vx] w (JPost (rmax p 0) (rmax q 0) w) := by
  obtain ⟨xlb, xla, xln, xlc, xlh, xlm, xlg, xub, xua, xun, xuc, xuh, xum, xug, rfl, hxl, hxu⟩ := hx
  have KW_0 := Lib.hid (show Keep w ((w.alloc (.cells #[.bool xlb, .slice xla xln xlc, .slice xlh xlm xlg, .bool xub, .slice xua xun xuc, .slice xuh xum xug] 35)).alloc (.cells #[.bool false, .slice none 0 0, .slice none 0 0, .bool false, .slice none 0 0, .slice none 0 0] 35)) from (Keep.alloc (Keep.alloc (Keep.refl _) _) _))
  have BX_0 := Lib.hid (show Bx (w.heap.size) [.bool xlb, .slice xla xln xlc, .slice xlh xlm xlg, .bool xub, .slice xua xun xuc, .slice xuh xum xug] ((w.alloc (.cells #[.bool xlb, .slice xla xln xlc, .slice xlh xlm xlg, .bool xub, .slice xua xun xuc, .slice xuh xum xug] 35)).alloc (.cells #[.bool false, .slice none 0 0, .slice none 0 0, .bool false, .slice none 0 0, .slice none 0 0] 35)) from ((Bx.new w 35 (.b _ (.s _ _ _ (.s _ _ _ (.b _ (.s _ _ _ (.s _ _ _ .nil))))))).at (g' := w.heap.size) (by simp)).keep (Keep.alloc (Keep.refl _) _))
  have RB_0 := Lib.hid (show Bx (w.heap.size + 1) [.bool false, .slice none 0 0, .slice none 0 0, .bool false, .slice none 0 0, .slice none 0 0] ((w.alloc (.cells #[.bool xlb, .slice xla xln xlc, .slice xlh xlm xlg, .bool xub, .slice xua xun xuc, .slice xuh xum xug] 35)).alloc (.cells #[.bool false, .slice none 0 0, .slice none 0 0, .bool false, .slice none 0 0, .slice none 0 0] 35)) from ((Bx.new (w.alloc (.cells #[.bool xlb, .slice xla xln xlc, .slice xlh xlm xlg, .bool xub, .slice xua xun xuc, .slice xuh xum xug] 35)) 35 (.b _ (.s _ _ _ (.s _ _ _ (.b _ (.s _ _ _ (.s _ _ _ .nil))))))).at (g' := w.heap.size + 1) (by simp)).keep (Keep.refl _))
  have XL_0 := Lib.hid (hxl.keep KW_0.out)
  have XU_0 := Lib.hid (hxu.keep KW_0.out)
  have C1 := Lib.hid (fun w1 (h : Ra w1 (.agg #[.bool xlb, .slice xla xln xlc, .slice xlh xlm xlg]) p k) => rqmax_c h ((Cr.zero w1).ra ⟨(by show 0 < BB ^ k; exact BBk_pos k), one_lt_BB hk1⟩) hk hk1)
  have C2 := Lib.hid (fun w1 (h : Ra w1 (.agg #[.bool xub, .slice xua xun xuc, .slice xuh xum xug]) q k) => rqmax_c h ((Cr.zero w1).ra ⟨(by show 0 < BB ^ k; exact BBk_pos k), one_lt_BB hk1⟩) hk hk1)
  rw [rmax_def] at C1 C2
  clear hxl hxu
  go_enter Tryd.func29, Tryd.ntmps29
  obtain ⟨oRB_0, oRB_1, oRB_2, oRB_3, oRB_4, oRB_5, qRB_0, qRB_1, qRB_2, qRB_3, qRB_4, qRB_5⟩ := RB_0.out.c6
  obtain ⟨oBX_0, oBX_1, oBX_2, oBX_3, oBX_4, oBX_5, qBX_0, qBX_1, qBX_2, qBX_3, qBX_4, qBX_5⟩ := BX_0.out.c6
  have BX_1 := Lib.hid (BX_0.out.keep (keep_drew _))
  clear BX_0
  have RB_1 := Lib.hid (RB_0.out.keep (keep_drew _))
  clear RB_0
  have XL_1 := Lib.hid (XL_0.out.keep (keep_drew _))
  clear XL_0
  have XU_1 := Lib.hid (XU_0.out.keep (keep_drew _))
  clear XU_0
  have KW_1 := Lib.hid (KW_0.out.trans (keep_drew _))
  clear KW_0
  obtain ⟨cBX_1_0, cBX_1_1, cBX_1_2, cBX_1_3, cBX_1_4, cBX_1_5, -, -, -, -, -, -⟩ := BX_1.out.c6
  go_wp2
  go_region_held3 (fun w' => w'.cell? ⟨w.heap.size, 0, none⟩ = some (.bool xlb) ∧ w'.cell? ⟨w.heap.size, 1, none⟩ = some (.slice xla xln xlc) ∧ w'.cell? ⟨w.heap.size, 2, none⟩ = some (.slice xlh xlm xlg) ∧ w'.cell? ⟨w.heap.size, 3, none⟩ = some (.bool xub) ∧ w'.cell? ⟨w.heap.size, 4, none⟩ = some (.slice xua xun xuc) ∧ w'.cell? ⟨w.heap.size, 5, none⟩ = some (.slice xuh xum xug)) (first | with_reducible exact ⟨yBX_0, yBX_1, yBX_2, yBX_3, yBX_4, yBX_5⟩ | with_reducible exact ⟨zBX_0, zBX_1, zBX_2, zBX_3, zBX_4, zBX_5⟩ | with_reducible exact ⟨cBX_2_0, cBX_2_1, cBX_2_2, cBX_2_3, cBX_2_4, cBX_2_5⟩ | with_reducible exact ⟨cBX_1_0, cBX_1_1, cBX_1_2, cBX_1_3, cBX_1_4, cBX_1_5⟩ | go_keep)
    (first
      | (go_at_call 32; ((with_reducible refine Calls.mono (C2.out _ XU_2.out) ?_); rintro e wz ⟨u, rfl, hu, kz⟩; obtain ⟨b0, a0, n0, c0, h0, m0, g0, b1, a1, n1, c1, h1, m1, g1, rfl, rfl, hcr, hkk, -⟩ := ICr.put (U_2.out.keep kz) hu (RB_2.out.keep kz) rfl (KW_2.out.trans kz) (by omega); have FIN := Lib.hid (show JPost (rmax p 0) (rmax q 0) w (.returned (.agg #[.bool b0, .slice a0 n0 c0, .slice h0 m0 g0, .bool b1, .slice a1 n1 c1, .slice h1 m1 g1])) ((((((wz.setCell ⟨w.heap.size + 1, 0, none⟩ (.bool b0)).setCell ⟨w.heap.size + 1, 1, none⟩ (.slice a0 n0 c0)).setCell ⟨w.heap.size + 1, 2, none⟩ (.slice h0 m0 g0)).setCell ⟨w.heap.size + 1, 3, none⟩ (.bool b1)).setCell ⟨w.heap.size + 1, 4, none⟩ (.slice a1 n1 c1)).setCell ⟨w.heap.size + 1, 5, none⟩ (.slice h1 m1 g1)) from ⟨_, rfl, hcr, hkk⟩); obtain ⟨s0, s1, s2, s3, s4, s5⟩ := (RB_2.out.keep kz).chain6 (.bool b0) (.slice a0 n0 c0) (.slice h0 m0 g0) (.bool b1) (.slice a1 n1 c1) (.slice h1 m1 g1); obtain ⟨r0, r1, r2, r3, r4, r5, t0, t1, t2, t3, t4, t5⟩ := (RB_2.out.keep kz).c6; obtain ⟨yBX_0, yBX_1, yBX_2, yBX_3, yBX_4, yBX_5, -, -, -, -, -, -⟩ := (show Bx (w.heap.size) [.bool xlb, .slice xla xln xlc, .slice xlh xlm xlg, .bool xub, .slice xua xun xuc, .slice xuh xum xug] ((((((wz.setCell ⟨w.heap.size + 1, 0, none⟩ (.bool b0)).setCell ⟨w.heap.size + 1, 1, none⟩ (.slice a0 n0 c0)).setCell ⟨w.heap.size + 1, 2, none⟩ (.slice h0 m0 g0)).setCell ⟨w.heap.size + 1, 3, none⟩ (.bool b1)).setCell ⟨w.heap.size + 1, 4, none⟩ (.slice a1 n1 c1)).setCell ⟨w.heap.size + 1, 5, none⟩ (.slice h1 m1 g1)) from ((BX_2.out.keep kz).other (g' := w.heap.size + 1) 0 [.bool b0, .slice a0 n0 c0, .slice h0 m0 g0, .bool b1, .slice a1 n1 c1, .slice h1 m1 g1] (by omega))).c6; obtain ⟨zBX_0, zBX_1, zBX_2, zBX_3, zBX_4, zBX_5, -, -, -, -, -, -⟩ := (BX_2.out.keep kz).c6; clear hcr hkk hu kz))
      | (go_at_call 32; ((with_reducible refine Calls.mono (C1.out _ XL_1.out) ?_); rintro e w2 ⟨x1, rfl, hU, k2⟩; have BX_2 := Lib.hid (BX_1.out.keep k2); have RB_2 := Lib.hid (RB_1.out.keep k2); have XL_2 := Lib.hid (XL_1.out.keep k2); have XU_2 := Lib.hid (XU_1.out.keep k2); have U_2 := Lib.hid hU; clear hU; have KW_2 := Lib.hid (KW_1.out.trans k2); obtain ⟨cBX_2_0, cBX_2_1, cBX_2_2, cBX_2_3, cBX_2_4, cBX_2_5, -, -, -, -, -, -⟩ := BX_2.out.c6; clear k2)))
  all_goals
    go_wp2
    refine bodyPost_ret (v := .agg #[.bool b0, .slice a0 n0 c0, .slice h0 m0 g0, .bool b1, .slice a1 n1 c1, .slice h1 m1 g1]) (by simp [results, Tryd.results29, go_sem, s0, s1, s2, s3, s4, s5]) rfl ?_
    exact FIN.out
end Go.Proofs.YtbcakefhknjbeaaDoor
