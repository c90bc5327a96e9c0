/- Walks of layer 6: of, at. -/
import Derived.Test.YtbcakefhknjbeaaDoorJ4
namespace Go.Proofs.YtbcakefhknjbeaaDoor
open Go.RowKit
set_option linter.unusedVariables false
set_option maxHeartbeats 800000 in
theorem rivof_c (x y : Int) (w : World) (h1 : -9223372036854775808 ≤ x) (h2 : x ≤ 9223372036854775807) (h3 : -9223372036854775808 ≤ y) (h4 : y ≤ 9223372036854775807) : Calls Tryd.prog 53 #[.int .i64 x, .int .i64 y] w (JPost (x : Rat) (y : Rat) w) := by
  have KW_0 := Lib.hid (show Keep w (w.alloc (.cells #[.bool false, .slice none 0 0, .slice none 0 0, .bool false, .slice none 0 0, .slice none 0 0] 35)) from (Keep.alloc (Keep.refl _) _))
  have RB_0 := Lib.hid (show Bx (w.heap.size) [.bool false, .slice none 0 0, .slice none 0 0, .bool false, .slice none 0 0, .slice none 0 0] (w.alloc (.cells #[.bool false, .slice none 0 0, .slice none 0 0, .bool false, .slice none 0 0, .slice none 0 0] 35)) from ((Bx.new w 35 (.b _ (.s _ _ _ (.s _ _ _ (.b _ (.s _ _ _ (.s _ _ _ .nil))))))).at (g' := w.heap.size) (by simp)).keep (Keep.refl _))
  have C1 := Lib.hid (fun w1 => rqof_c x w1 h1 h2)
  have C2 := Lib.hid (fun w1 => rqof_c y w1 h3 h4)
  clear h1 h2 h3 h4
  go_enter Tryd.func53, Tryd.ntmps53
  obtain ⟨RB_c0, RB_c1, RB_c2, RB_c3, RB_c4, RB_c5, -, -, -, -, -, -⟩ := RB_0.out.c6
  go_wp2_with fail
  refine Calls.mono (C1.out _) ?_
  rintro e w1 ⟨x1, rfl, hU, k1⟩
  clear RB_c0 RB_c1 RB_c2 RB_c3 RB_c4 RB_c5
  have RB_1 := Lib.hid (RB_0.out.keep k1)
  have U_1 := Lib.hid hU
  have KW_1 := Lib.hid (KW_0.out.trans k1)
  clear k1 RB_0 hU KW_0
  obtain ⟨RB_c0, RB_c1, RB_c2, RB_c3, RB_c4, RB_c5, -, -, -, -, -, -⟩ := RB_1.out.c6
  go_wp2_with fail
  refine Calls.mono (C2.out _) ?_
  rintro e wz ⟨u, rfl, hu, kz⟩
  clear RB_c0 RB_c1 RB_c2 RB_c3 RB_c4 RB_c5
  obtain ⟨b0, a0, n0, c0, h0, m0, g0, b1, a1, n1, c1, h1, m1, g1, rfl, rfl, hcr, hkk, -⟩ := ICr.put (U_1.out.keep kz) hu (RB_1.out.keep kz) rfl (KW_1.out.trans kz) (by omega)
  have FIN := Lib.hid (show JPost ((x : Rat)) ((y : Rat)) w (.returned (.agg #[.bool b0, .slice a0 n0 c0, .slice h0 m0 g0, .bool b1, .slice a1 n1 c1, .slice h1 m1 g1])) ((((((wz.setCell ⟨w.heap.size, 0, none⟩ (.bool b0)).setCell ⟨w.heap.size, 1, none⟩ (.slice a0 n0 c0)).setCell ⟨w.heap.size, 2, none⟩ (.slice h0 m0 g0)).setCell ⟨w.heap.size, 3, none⟩ (.bool b1)).setCell ⟨w.heap.size, 4, none⟩ (.slice a1 n1 c1)).setCell ⟨w.heap.size, 5, none⟩ (.slice h1 m1 g1)) from ⟨_, rfl, hcr, hkk⟩)
  obtain ⟨s0, s1, s2, s3, s4, s5⟩ := (RB_1.out.keep kz).chain6 (.bool b0) (.slice a0 n0 c0) (.slice h0 m0 g0) (.bool b1) (.slice a1 n1 c1) (.slice h1 m1 g1)
  obtain ⟨r0, r1, r2, r3, r4, r5, t0, t1, t2, t3, t4, t5⟩ := (RB_1.out.keep kz).c6
  clear hcr hkk hu kz KW_1 RB_1 U_1
  go_wp2
  refine bodyPost_ret (v := .agg #[.bool b0, .slice a0 n0 c0, .slice h0 m0 g0, .bool b1, .slice a1 n1 c1, .slice h1 m1 g1]) (by simp [results, Tryd.results53, go_sem, s0, s1, s2, s3, s4, s5]) rfl ?_
  exact FIN.out
end Go.Proofs.YtbcakefhknjbeaaDoor
