/- Walks of layer 6: Make, Contains, Within (the program and the reference). -/
import Derived.Test.YtbcakefhknjbeaaDoorJ1
import Derived.Test.YtbcakefhknjbeaaDoorR11
import Derived.Test.YtbcakefhknjbeaaDoorRR6
import Derived.Deep.RegionHeld3
import Derived.Outline
namespace Go.Proofs.YtbcakefhknjbeaaDoor
open Go.RowKit
set_option linter.unusedVariables false
set_option maxHeartbeats 800000 in
theorem icontains_t {w : World} {vx vy : Value} {p q r : Rat} {k : Nat} (hx : IRa w vx p q k) (hy : Ra w vy r k) (hk : k < 48) (hk1 : 1 ≤ k) (h1 : p ≤ r) (h2 : r ≤ q) : Calls Tryd.prog 23 #[vx, vy] w (BPost true w) := by
  obtain ⟨xlb, xla, xln, xlc, xlh, xlm, xlg, xub, xua, xun, xuc, xuh, xum, xug, rfl, hxl, hxu⟩ := hx
  obtain ⟨yb, ya, yn, yc, yh, ym, yg, rfl, hyv⟩ := hy.fv
  have KW_0 := Lib.hid (show Keep w ((w.alloc (.cells #[.bool xlb, .slice xla xln xlc, .slice xlh xlm xlg, .bool xub, .slice xua xun xuc, .slice xuh xum xug] 35)).alloc (.cells #[.bool yb, .slice ya yn yc, .slice yh ym yg] 32)) from (Keep.alloc (Keep.alloc (Keep.refl _) _) _))
  have BX_0 := Lib.hid (show Bx (w.heap.size) [.bool xlb, .slice xla xln xlc, .slice xlh xlm xlg, .bool xub, .slice xua xun xuc, .slice xuh xum xug] ((w.alloc (.cells #[.bool xlb, .slice xla xln xlc, .slice xlh xlm xlg, .bool xub, .slice xua xun xuc, .slice xuh xum xug] 35)).alloc (.cells #[.bool yb, .slice ya yn yc, .slice yh ym yg] 32)) from ((Bx.new w 35 (.b _ (.s _ _ _ (.s _ _ _ (.b _ (.s _ _ _ (.s _ _ _ .nil))))))).at (g' := w.heap.size) (by simp)).keep (Keep.alloc (Keep.refl _) _))
  have BY_0 := Lib.hid (show Bx (w.heap.size + 1) [.bool yb, .slice ya yn yc, .slice yh ym yg] ((w.alloc (.cells #[.bool xlb, .slice xla xln xlc, .slice xlh xlm xlg, .bool xub, .slice xua xun xuc, .slice xuh xum xug] 35)).alloc (.cells #[.bool yb, .slice ya yn yc, .slice yh ym yg] 32)) from ((Bx.new (w.alloc (.cells #[.bool xlb, .slice xla xln xlc, .slice xlh xlm xlg, .bool xub, .slice xua xun xuc, .slice xuh xum xug] 35)) 32 (.b _ (.s _ _ _ (.s _ _ _ .nil)))).at (g' := w.heap.size + 1) (by simp)).keep (Keep.refl _))
  have XL_0 := Lib.hid (hxl.keep KW_0.out)
  have XU_0 := Lib.hid (hxu.keep KW_0.out)
  have Y_0 := Lib.hid (hyv.keep KW_0.out)
  have C1 := Lib.hid (fun w1 (h : Ra w1 (.agg #[.bool xlb, .slice xla xln xlc, .slice xlh xlm xlg]) p k) (h' : Ra w1 (.agg #[.bool yb, .slice ya yn yc, .slice yh ym yg]) r k) => qcmp_c h h' hk hk1)
  have C2 := Lib.hid (fun w1 (h : Ra w1 (.agg #[.bool yb, .slice ya yn yc, .slice yh ym yg]) r k) (h' : Ra w1 (.agg #[.bool xub, .slice xua xun xuc, .slice xuh xum xug]) q k) => qcmp_c h h' hk hk1)
  obtain ⟨z1, hz1⟩ : ∃ z, rC p r = z := ⟨_, rfl⟩
  rw [hz1] at C1
  obtain ⟨z2, hz2⟩ : ∃ z, rC r q = z := ⟨_, rfl⟩
  rw [hz2] at C2
  have d1 : decide (z1 ≤ 0) = true := by rw [← hz1]; simpa [rC_le] using h1
  have d2 : decide (z2 ≤ 0) = true := by rw [← hz2]; simpa [rC_le] using h2
  clear hz1 hz2 h1 h2 hxl hxu hyv
  go_enter Tryd.func23, Tryd.ntmps23
  obtain ⟨BX_c0, BX_c1, BX_c2, BX_c3, BX_c4, BX_c5, -, -, -, -, -, -⟩ := BX_0.out.c6
  obtain ⟨BY_c0, BY_c1, BY_c2, -, -, -⟩ := BY_0.out.c3
  go_wp2_with fail
  refine Calls.mono (C1.out _ XL_0.out Y_0.out) ?_
  rintro e w1 ⟨rfl, k1⟩
  clear BX_c0 BX_c1 BX_c2 BX_c3 BX_c4 BX_c5 BY_c0 BY_c1 BY_c2
  have BX_1 := Lib.hid (BX_0.out.keep k1)
  have BY_1 := Lib.hid (BY_0.out.keep k1)
  have XL_1 := Lib.hid (XL_0.out.keep k1)
  have XU_1 := Lib.hid (XU_0.out.keep k1)
  have Y_1 := Lib.hid (Y_0.out.keep k1)
  have KW_1 := Lib.hid (KW_0.out.trans k1)
  clear k1 BX_0 BY_0 XL_0 XU_0 Y_0 KW_0
  obtain ⟨BX_c0, BX_c1, BX_c2, BX_c3, BX_c4, BX_c5, -, -, -, -, -, -⟩ := BX_1.out.c6
  obtain ⟨BY_c0, BY_c1, BY_c2, -, -, -⟩ := BY_1.out.c3
  go_wp2_with fail
  refine Calls.mono (C2.out _ Y_1.out XU_1.out) ?_
  rintro e w2 ⟨rfl, k2⟩
  clear BX_c0 BX_c1 BX_c2 BX_c3 BX_c4 BX_c5 BY_c0 BY_c1 BY_c2
  have BX_2 := Lib.hid (BX_1.out.keep k2)
  have BY_2 := Lib.hid (BY_1.out.keep k2)
  have XL_2 := Lib.hid (XL_1.out.keep k2)
  have XU_2 := Lib.hid (XU_1.out.keep k2)
  have Y_2 := Lib.hid (Y_1.out.keep k2)
  have KW_2 := Lib.hid (KW_1.out.trans k2)
  clear k2 BX_1 BY_1 XL_1 XU_1 Y_1 KW_1
  obtain ⟨BX_c0, BX_c1, BX_c2, BX_c3, BX_c4, BX_c5, -, -, -, -, -, -⟩ := BX_2.out.c6
  obtain ⟨BY_c0, BY_c1, BY_c2, -, -, -⟩ := BY_2.out.c3
  go_wp2_with fail
  go_ret
  exact ⟨rfl, KW_2.out⟩
set_option maxHeartbeats 800000 in
theorem icontains_f {w : World} {vx vy : Value} {p q r : Rat} {k : Nat} (hx : IRa w vx p q k) (hy : Ra w vy r k) (hk : k < 48) (hk1 : 1 ≤ k)  (h1 : ¬ p ≤ r) : Calls Tryd.prog 23 #[vx, vy] w (BPost false w) := by
  obtain ⟨xlb, xla, xln, xlc, xlh, xlm, xlg, xub, xua, xun, xuc, xuh, xum, xug, rfl, hxl, hxu⟩ := hx
  obtain ⟨yb, ya, yn, yc, yh, ym, yg, rfl, hyv⟩ := hy.fv
  have KW_0 := Lib.hid (show Keep w ((w.alloc (.cells #[.bool xlb, .slice xla xln xlc, .slice xlh xlm xlg, .bool xub, .slice xua xun xuc, .slice xuh xum xug] 35)).alloc (.cells #[.bool yb, .slice ya yn yc, .slice yh ym yg] 32)) from (Keep.alloc (Keep.alloc (Keep.refl _) _) _))
  have BX_0 := Lib.hid (show Bx (w.heap.size) [.bool xlb, .slice xla xln xlc, .slice xlh xlm xlg, .bool xub, .slice xua xun xuc, .slice xuh xum xug] ((w.alloc (.cells #[.bool xlb, .slice xla xln xlc, .slice xlh xlm xlg, .bool xub, .slice xua xun xuc, .slice xuh xum xug] 35)).alloc (.cells #[.bool yb, .slice ya yn yc, .slice yh ym yg] 32)) from ((Bx.new w 35 (.b _ (.s _ _ _ (.s _ _ _ (.b _ (.s _ _ _ (.s _ _ _ .nil))))))).at (g' := w.heap.size) (by simp)).keep (Keep.alloc (Keep.refl _) _))
  have BY_0 := Lib.hid (show Bx (w.heap.size + 1) [.bool yb, .slice ya yn yc, .slice yh ym yg] ((w.alloc (.cells #[.bool xlb, .slice xla xln xlc, .slice xlh xlm xlg, .bool xub, .slice xua xun xuc, .slice xuh xum xug] 35)).alloc (.cells #[.bool yb, .slice ya yn yc, .slice yh ym yg] 32)) from ((Bx.new (w.alloc (.cells #[.bool xlb, .slice xla xln xlc, .slice xlh xlm xlg, .bool xub, .slice xua xun xuc, .slice xuh xum xug] 35)) 32 (.b _ (.s _ _ _ (.s _ _ _ .nil)))).at (g' := w.heap.size + 1) (by simp)).keep (Keep.refl _))
  have XL_0 := Lib.hid (hxl.keep KW_0.out)
  have XU_0 := Lib.hid (hxu.keep KW_0.out)
  have Y_0 := Lib.hid (hyv.keep KW_0.out)
  have C1 := Lib.hid (fun w1 (h : Ra w1 (.agg #[.bool xlb, .slice xla xln xlc, .slice xlh xlm xlg]) p k) (h' : Ra w1 (.agg #[.bool yb, .slice ya yn yc, .slice yh ym yg]) r k) => qcmp_c h h' hk hk1)
  have C2 := Lib.hid (fun w1 (h : Ra w1 (.agg #[.bool yb, .slice ya yn yc, .slice yh ym yg]) r k) (h' : Ra w1 (.agg #[.bool xub, .slice xua xun xuc, .slice xuh xum xug]) q k) => qcmp_c h h' hk hk1)
  obtain ⟨z1, hz1⟩ : ∃ z, rC p r = z := ⟨_, rfl⟩
  rw [hz1] at C1
  obtain ⟨z2, hz2⟩ : ∃ z, rC r q = z := ⟨_, rfl⟩
  rw [hz2] at C2
  have d1 : decide (z1 ≤ 0) = false := by rw [← hz1]; simpa [rC_le] using h1
  clear hz1 hz2 h1  hxl hxu hyv
  go_enter Tryd.func23, Tryd.ntmps23
  obtain ⟨BX_c0, BX_c1, BX_c2, BX_c3, BX_c4, BX_c5, -, -, -, -, -, -⟩ := BX_0.out.c6
  obtain ⟨BY_c0, BY_c1, BY_c2, -, -, -⟩ := BY_0.out.c3
  go_wp2_with fail
  refine Calls.mono (C1.out _ XL_0.out Y_0.out) ?_
  rintro e w1 ⟨rfl, k1⟩
  clear BX_c0 BX_c1 BX_c2 BX_c3 BX_c4 BX_c5 BY_c0 BY_c1 BY_c2
  have BX_1 := Lib.hid (BX_0.out.keep k1)
  have BY_1 := Lib.hid (BY_0.out.keep k1)
  have XL_1 := Lib.hid (XL_0.out.keep k1)
  have XU_1 := Lib.hid (XU_0.out.keep k1)
  have Y_1 := Lib.hid (Y_0.out.keep k1)
  have KW_1 := Lib.hid (KW_0.out.trans k1)
  clear k1 BX_0 BY_0 XL_0 XU_0 Y_0 KW_0
  obtain ⟨BX_c0, BX_c1, BX_c2, BX_c3, BX_c4, BX_c5, -, -, -, -, -, -⟩ := BX_1.out.c6
  obtain ⟨BY_c0, BY_c1, BY_c2, -, -, -⟩ := BY_1.out.c3
  go_wp2_with fail
  go_ret
  exact ⟨rfl, KW_1.out⟩
set_option maxHeartbeats 800000 in
theorem icontains_g {w : World} {vx vy : Value} {p q r : Rat} {k : Nat} (hx : IRa w vx p q k) (hy : Ra w vy r k) (hk : k < 48) (hk1 : 1 ≤ k) (h1 : p ≤ r) (h2 : ¬ r ≤ q) : Calls Tryd.prog 23 #[vx, vy] w (BPost false w) := by
  obtain ⟨xlb, xla, xln, xlc, xlh, xlm, xlg, xub, xua, xun, xuc, xuh, xum, xug, rfl, hxl, hxu⟩ := hx
  obtain ⟨yb, ya, yn, yc, yh, ym, yg, rfl, hyv⟩ := hy.fv
  have KW_0 := Lib.hid (show Keep w ((w.alloc (.cells #[.bool xlb, .slice xla xln xlc, .slice xlh xlm xlg, .bool xub, .slice xua xun xuc, .slice xuh xum xug] 35)).alloc (.cells #[.bool yb, .slice ya yn yc, .slice yh ym yg] 32)) from (Keep.alloc (Keep.alloc (Keep.refl _) _) _))
  have BX_0 := Lib.hid (show Bx (w.heap.size) [.bool xlb, .slice xla xln xlc, .slice xlh xlm xlg, .bool xub, .slice xua xun xuc, .slice xuh xum xug] ((w.alloc (.cells #[.bool xlb, .slice xla xln xlc, .slice xlh xlm xlg, .bool xub, .slice xua xun xuc, .slice xuh xum xug] 35)).alloc (.cells #[.bool yb, .slice ya yn yc, .slice yh ym yg] 32)) from ((Bx.new w 35 (.b _ (.s _ _ _ (.s _ _ _ (.b _ (.s _ _ _ (.s _ _ _ .nil))))))).at (g' := w.heap.size) (by simp)).keep (Keep.alloc (Keep.refl _) _))
  have BY_0 := Lib.hid (show Bx (w.heap.size + 1) [.bool yb, .slice ya yn yc, .slice yh ym yg] ((w.alloc (.cells #[.bool xlb, .slice xla xln xlc, .slice xlh xlm xlg, .bool xub, .slice xua xun xuc, .slice xuh xum xug] 35)).alloc (.cells #[.bool yb, .slice ya yn yc, .slice yh ym yg] 32)) from ((Bx.new (w.alloc (.cells #[.bool xlb, .slice xla xln xlc, .slice xlh xlm xlg, .bool xub, .slice xua xun xuc, .slice xuh xum xug] 35)) 32 (.b _ (.s _ _ _ (.s _ _ _ .nil)))).at (g' := w.heap.size + 1) (by simp)).keep (Keep.refl _))
  have XL_0 := Lib.hid (hxl.keep KW_0.out)
  have XU_0 := Lib.hid (hxu.keep KW_0.out)
  have Y_0 := Lib.hid (hyv.keep KW_0.out)
  have C1 := Lib.hid (fun w1 (h : Ra w1 (.agg #[.bool xlb, .slice xla xln xlc, .slice xlh xlm xlg]) p k) (h' : Ra w1 (.agg #[.bool yb, .slice ya yn yc, .slice yh ym yg]) r k) => qcmp_c h h' hk hk1)
  have C2 := Lib.hid (fun w1 (h : Ra w1 (.agg #[.bool yb, .slice ya yn yc, .slice yh ym yg]) r k) (h' : Ra w1 (.agg #[.bool xub, .slice xua xun xuc, .slice xuh xum xug]) q k) => qcmp_c h h' hk hk1)
  obtain ⟨z1, hz1⟩ : ∃ z, rC p r = z := ⟨_, rfl⟩
  rw [hz1] at C1
  obtain ⟨z2, hz2⟩ : ∃ z, rC r q = z := ⟨_, rfl⟩
  rw [hz2] at C2
  have d1 : decide (z1 ≤ 0) = true := by rw [← hz1]; simpa [rC_le] using h1
  have d2 : decide (z2 ≤ 0) = false := by rw [← hz2]; simpa [rC_le] using h2
  clear hz1 hz2 h1 h2 hxl hxu hyv
  go_enter Tryd.func23, Tryd.ntmps23
  obtain ⟨BX_c0, BX_c1, BX_c2, BX_c3, BX_c4, BX_c5, -, -, -, -, -, -⟩ := BX_0.out.c6
  obtain ⟨BY_c0, BY_c1, BY_c2, -, -, -⟩ := BY_0.out.c3
  go_wp2_with fail
  refine Calls.mono (C1.out _ XL_0.out Y_0.out) ?_
  rintro e w1 ⟨rfl, k1⟩
  clear BX_c0 BX_c1 BX_c2 BX_c3 BX_c4 BX_c5 BY_c0 BY_c1 BY_c2
  have BX_1 := Lib.hid (BX_0.out.keep k1)
  have BY_1 := Lib.hid (BY_0.out.keep k1)
  have XL_1 := Lib.hid (XL_0.out.keep k1)
  have XU_1 := Lib.hid (XU_0.out.keep k1)
  have Y_1 := Lib.hid (Y_0.out.keep k1)
  have KW_1 := Lib.hid (KW_0.out.trans k1)
  clear k1 BX_0 BY_0 XL_0 XU_0 Y_0 KW_0
  obtain ⟨BX_c0, BX_c1, BX_c2, BX_c3, BX_c4, BX_c5, -, -, -, -, -, -⟩ := BX_1.out.c6
  obtain ⟨BY_c0, BY_c1, BY_c2, -, -, -⟩ := BY_1.out.c3
  go_wp2_with fail
  refine Calls.mono (C2.out _ Y_1.out XU_1.out) ?_
  rintro e w2 ⟨rfl, k2⟩
  clear BX_c0 BX_c1 BX_c2 BX_c3 BX_c4 BX_c5 BY_c0 BY_c1 BY_c2
  have BX_2 := Lib.hid (BX_1.out.keep k2)
  have BY_2 := Lib.hid (BY_1.out.keep k2)
  have XL_2 := Lib.hid (XL_1.out.keep k2)
  have XU_2 := Lib.hid (XU_1.out.keep k2)
  have Y_2 := Lib.hid (Y_1.out.keep k2)
  have KW_2 := Lib.hid (KW_1.out.trans k2)
  clear k2 BX_1 BY_1 XL_1 XU_1 Y_1 KW_1
  obtain ⟨BX_c0, BX_c1, BX_c2, BX_c3, BX_c4, BX_c5, -, -, -, -, -, -⟩ := BX_2.out.c6
  obtain ⟨BY_c0, BY_c1, BY_c2, -, -, -⟩ := BY_2.out.c3
  go_wp2_with fail
  go_ret
  exact ⟨rfl, KW_2.out⟩
theorem icontains_c {w : World} {vx vy : Value} {p q r : Rat} {k : Nat} (hx : IRa w vx p q k) (hy : Ra w vy r k) (hk : k < 48) (hk1 : 1 ≤ k) : Calls Tryd.prog 23 #[vx, vy] w (BPost (decide (p ≤ r ∧ r ≤ q)) w) := by
  by_cases h1 : p ≤ r
  · by_cases h2 : r ≤ q
    · rw [decide_eq_true ⟨h1, h2⟩]; exact icontains_t hx hy hk hk1 h1 h2
    · rw [decide_eq_false (fun h => h2 h.2)]; exact icontains_g hx hy hk hk1 h1 h2
  · rw [decide_eq_false (fun h => h1 h.1)]; exact icontains_f hx hy hk hk1 h1
set_option maxHeartbeats 800000 in
theorem iwithin_t {w : World} {vx vy : Value} {p q r s : Rat} {k : Nat} (hx : IRa w vx p q k) (hy : IRa w vy r s k) (hk : k < 48) (hk1 : 1 ≤ k) (h1 : r ≤ p) (h2 : q ≤ s) : Calls Tryd.prog 38 #[vx, vy] w (BPost true w) := by
  obtain ⟨xlb, xla, xln, xlc, xlh, xlm, xlg, xub, xua, xun, xuc, xuh, xum, xug, rfl, hxl, hxu⟩ := hx
  obtain ⟨ylb, yla, yln, ylc, ylh, ylm, ylg, yub, yua, yun, yuc, yuh, yum, yug, rfl, hyl, hyu⟩ := hy
  have KW_0 := Lib.hid (show Keep w ((w.alloc (.cells #[.bool xlb, .slice xla xln xlc, .slice xlh xlm xlg, .bool xub, .slice xua xun xuc, .slice xuh xum xug] 35)).alloc (.cells #[.bool ylb, .slice yla yln ylc, .slice ylh ylm ylg, .bool yub, .slice yua yun yuc, .slice yuh yum yug] 35)) from (Keep.alloc (Keep.alloc (Keep.refl _) _) _))
  have BX_0 := Lib.hid (show Bx (w.heap.size) [.bool xlb, .slice xla xln xlc, .slice xlh xlm xlg, .bool xub, .slice xua xun xuc, .slice xuh xum xug] ((w.alloc (.cells #[.bool xlb, .slice xla xln xlc, .slice xlh xlm xlg, .bool xub, .slice xua xun xuc, .slice xuh xum xug] 35)).alloc (.cells #[.bool ylb, .slice yla yln ylc, .slice ylh ylm ylg, .bool yub, .slice yua yun yuc, .slice yuh yum yug] 35)) from ((Bx.new w 35 (.b _ (.s _ _ _ (.s _ _ _ (.b _ (.s _ _ _ (.s _ _ _ .nil))))))).at (g' := w.heap.size) (by simp)).keep (Keep.alloc (Keep.refl _) _))
  have BY_0 := Lib.hid (show Bx (w.heap.size + 1) [.bool ylb, .slice yla yln ylc, .slice ylh ylm ylg, .bool yub, .slice yua yun yuc, .slice yuh yum yug] ((w.alloc (.cells #[.bool xlb, .slice xla xln xlc, .slice xlh xlm xlg, .bool xub, .slice xua xun xuc, .slice xuh xum xug] 35)).alloc (.cells #[.bool ylb, .slice yla yln ylc, .slice ylh ylm ylg, .bool yub, .slice yua yun yuc, .slice yuh yum yug] 35)) from ((Bx.new (w.alloc (.cells #[.bool xlb, .slice xla xln xlc, .slice xlh xlm xlg, .bool xub, .slice xua xun xuc, .slice xuh xum xug] 35)) 35 (.b _ (.s _ _ _ (.s _ _ _ (.b _ (.s _ _ _ (.s _ _ _ .nil))))))).at (g' := w.heap.size + 1) (by simp)).keep (Keep.refl _))
  have XL_0 := Lib.hid (hxl.keep KW_0.out)
  have XU_0 := Lib.hid (hxu.keep KW_0.out)
  have YL_0 := Lib.hid (hyl.keep KW_0.out)
  have YU_0 := Lib.hid (hyu.keep KW_0.out)
  have C1 := Lib.hid (fun w1 (h : Ra w1 (.agg #[.bool ylb, .slice yla yln ylc, .slice ylh ylm ylg]) r k) (h' : Ra w1 (.agg #[.bool xlb, .slice xla xln xlc, .slice xlh xlm xlg]) p k) => qcmp_c h h' hk hk1)
  have C2 := Lib.hid (fun w1 (h : Ra w1 (.agg #[.bool xub, .slice xua xun xuc, .slice xuh xum xug]) q k) (h' : Ra w1 (.agg #[.bool yub, .slice yua yun yuc, .slice yuh yum yug]) s k) => qcmp_c h h' hk hk1)
  obtain ⟨z1, hz1⟩ : ∃ z, rC r p = z := ⟨_, rfl⟩
  rw [hz1] at C1
  obtain ⟨z2, hz2⟩ : ∃ z, rC q s = z := ⟨_, rfl⟩
  rw [hz2] at C2
  have d1 : decide (z1 ≤ 0) = true := by rw [← hz1]; simpa [rC_le] using h1
  have d2 : decide (z2 ≤ 0) = true := by rw [← hz2]; simpa [rC_le] using h2
  clear hz1 hz2 h1 h2 hxl hxu hyl hyu
  go_enter Tryd.func38, Tryd.ntmps38
  obtain ⟨BX_c0, BX_c1, BX_c2, BX_c3, BX_c4, BX_c5, -, -, -, -, -, -⟩ := BX_0.out.c6
  obtain ⟨BY_c0, BY_c1, BY_c2, BY_c3, BY_c4, BY_c5, -, -, -, -, -, -⟩ := BY_0.out.c6
  go_wp2_with fail
  refine Calls.mono (C1.out _ YL_0.out XL_0.out) ?_
  rintro e w1 ⟨rfl, k1⟩
  clear BX_c0 BX_c1 BX_c2 BX_c3 BX_c4 BX_c5 BY_c0 BY_c1 BY_c2 BY_c3 BY_c4 BY_c5
  have BX_1 := Lib.hid (BX_0.out.keep k1)
  have BY_1 := Lib.hid (BY_0.out.keep k1)
  have XL_1 := Lib.hid (XL_0.out.keep k1)
  have XU_1 := Lib.hid (XU_0.out.keep k1)
  have YL_1 := Lib.hid (YL_0.out.keep k1)
  have YU_1 := Lib.hid (YU_0.out.keep k1)
  have KW_1 := Lib.hid (KW_0.out.trans k1)
  clear k1 BX_0 BY_0 XL_0 XU_0 YL_0 YU_0 KW_0
  obtain ⟨BX_c0, BX_c1, BX_c2, BX_c3, BX_c4, BX_c5, -, -, -, -, -, -⟩ := BX_1.out.c6
  obtain ⟨BY_c0, BY_c1, BY_c2, BY_c3, BY_c4, BY_c5, -, -, -, -, -, -⟩ := BY_1.out.c6
  go_wp2_with fail
  refine Calls.mono (C2.out _ XU_1.out YU_1.out) ?_
  rintro e w2 ⟨rfl, k2⟩
  clear BX_c0 BX_c1 BX_c2 BX_c3 BX_c4 BX_c5 BY_c0 BY_c1 BY_c2 BY_c3 BY_c4 BY_c5
  have BX_2 := Lib.hid (BX_1.out.keep k2)
  have BY_2 := Lib.hid (BY_1.out.keep k2)
  have XL_2 := Lib.hid (XL_1.out.keep k2)
  have XU_2 := Lib.hid (XU_1.out.keep k2)
  have YL_2 := Lib.hid (YL_1.out.keep k2)
  have YU_2 := Lib.hid (YU_1.out.keep k2)
  have KW_2 := Lib.hid (KW_1.out.trans k2)
  clear k2 BX_1 BY_1 XL_1 XU_1 YL_1 YU_1 KW_1
  obtain ⟨BX_c0, BX_c1, BX_c2, BX_c3, BX_c4, BX_c5, -, -, -, -, -, -⟩ := BX_2.out.c6
  obtain ⟨BY_c0, BY_c1, BY_c2, BY_c3, BY_c4, BY_c5, -, -, -, -, -, -⟩ := BY_2.out.c6
  go_wp2_with fail
  go_ret
  exact ⟨rfl, KW_2.out⟩
set_option maxHeartbeats 800000 in
theorem iwithin_f {w : World} {vx vy : Value} {p q r s : Rat} {k : Nat} (hx : IRa w vx p q k) (hy : IRa w vy r s k) (hk : k < 48) (hk1 : 1 ≤ k)  (h1 : ¬ r ≤ p) : Calls Tryd.prog 38 #[vx, vy] w (BPost false w) := by
  obtain ⟨xlb, xla, xln, xlc, xlh, xlm, xlg, xub, xua, xun, xuc, xuh, xum, xug, rfl, hxl, hxu⟩ := hx
  obtain ⟨ylb, yla, yln, ylc, ylh, ylm, ylg, yub, yua, yun, yuc, yuh, yum, yug, rfl, hyl, hyu⟩ := hy
  have KW_0 := Lib.hid (show Keep w ((w.alloc (.cells #[.bool xlb, .slice xla xln xlc, .slice xlh xlm xlg, .bool xub, .slice xua xun xuc, .slice xuh xum xug] 35)).alloc (.cells #[.bool ylb, .slice yla yln ylc, .slice ylh ylm ylg, .bool yub, .slice yua yun yuc, .slice yuh yum yug] 35)) from (Keep.alloc (Keep.alloc (Keep.refl _) _) _))
  have BX_0 := Lib.hid (show Bx (w.heap.size) [.bool xlb, .slice xla xln xlc, .slice xlh xlm xlg, .bool xub, .slice xua xun xuc, .slice xuh xum xug] ((w.alloc (.cells #[.bool xlb, .slice xla xln xlc, .slice xlh xlm xlg, .bool xub, .slice xua xun xuc, .slice xuh xum xug] 35)).alloc (.cells #[.bool ylb, .slice yla yln ylc, .slice ylh ylm ylg, .bool yub, .slice yua yun yuc, .slice yuh yum yug] 35)) from ((Bx.new w 35 (.b _ (.s _ _ _ (.s _ _ _ (.b _ (.s _ _ _ (.s _ _ _ .nil))))))).at (g' := w.heap.size) (by simp)).keep (Keep.alloc (Keep.refl _) _))
  have BY_0 := Lib.hid (show Bx (w.heap.size + 1) [.bool ylb, .slice yla yln ylc, .slice ylh ylm ylg, .bool yub, .slice yua yun yuc, .slice yuh yum yug] ((w.alloc (.cells #[.bool xlb, .slice xla xln xlc, .slice xlh xlm xlg, .bool xub, .slice xua xun xuc, .slice xuh xum xug] 35)).alloc (.cells #[.bool ylb, .slice yla yln ylc, .slice ylh ylm ylg, .bool yub, .slice yua yun yuc, .slice yuh yum yug] 35)) from ((Bx.new (w.alloc (.cells #[.bool xlb, .slice xla xln xlc, .slice xlh xlm xlg, .bool xub, .slice xua xun xuc, .slice xuh xum xug] 35)) 35 (.b _ (.s _ _ _ (.s _ _ _ (.b _ (.s _ _ _ (.s _ _ _ .nil))))))).at (g' := w.heap.size + 1) (by simp)).keep (Keep.refl _))
  have XL_0 := Lib.hid (hxl.keep KW_0.out)
  have XU_0 := Lib.hid (hxu.keep KW_0.out)
  have YL_0 := Lib.hid (hyl.keep KW_0.out)
  have YU_0 := Lib.hid (hyu.keep KW_0.out)
  have C1 := Lib.hid (fun w1 (h : Ra w1 (.agg #[.bool ylb, .slice yla yln ylc, .slice ylh ylm ylg]) r k) (h' : Ra w1 (.agg #[.bool xlb, .slice xla xln xlc, .slice xlh xlm xlg]) p k) => qcmp_c h h' hk hk1)
  have C2 := Lib.hid (fun w1 (h : Ra w1 (.agg #[.bool xub, .slice xua xun xuc, .slice xuh xum xug]) q k) (h' : Ra w1 (.agg #[.bool yub, .slice yua yun yuc, .slice yuh yum yug]) s k) => qcmp_c h h' hk hk1)
  obtain ⟨z1, hz1⟩ : ∃ z, rC r p = z := ⟨_, rfl⟩
  rw [hz1] at C1
  obtain ⟨z2, hz2⟩ : ∃ z, rC q s = z := ⟨_, rfl⟩
  rw [hz2] at C2
  have d1 : decide (z1 ≤ 0) = false := by rw [← hz1]; simpa [rC_le] using h1
  clear hz1 hz2 h1  hxl hxu hyl hyu
  go_enter Tryd.func38, Tryd.ntmps38
  obtain ⟨BX_c0, BX_c1, BX_c2, BX_c3, BX_c4, BX_c5, -, -, -, -, -, -⟩ := BX_0.out.c6
  obtain ⟨BY_c0, BY_c1, BY_c2, BY_c3, BY_c4, BY_c5, -, -, -, -, -, -⟩ := BY_0.out.c6
  go_wp2_with fail
  refine Calls.mono (C1.out _ YL_0.out XL_0.out) ?_
  rintro e w1 ⟨rfl, k1⟩
  clear BX_c0 BX_c1 BX_c2 BX_c3 BX_c4 BX_c5 BY_c0 BY_c1 BY_c2 BY_c3 BY_c4 BY_c5
  have BX_1 := Lib.hid (BX_0.out.keep k1)
  have BY_1 := Lib.hid (BY_0.out.keep k1)
  have XL_1 := Lib.hid (XL_0.out.keep k1)
  have XU_1 := Lib.hid (XU_0.out.keep k1)
  have YL_1 := Lib.hid (YL_0.out.keep k1)
  have YU_1 := Lib.hid (YU_0.out.keep k1)
  have KW_1 := Lib.hid (KW_0.out.trans k1)
  clear k1 BX_0 BY_0 XL_0 XU_0 YL_0 YU_0 KW_0
  obtain ⟨BX_c0, BX_c1, BX_c2, BX_c3, BX_c4, BX_c5, -, -, -, -, -, -⟩ := BX_1.out.c6
  obtain ⟨BY_c0, BY_c1, BY_c2, BY_c3, BY_c4, BY_c5, -, -, -, -, -, -⟩ := BY_1.out.c6
  go_wp2_with fail
  go_ret
  exact ⟨rfl, KW_1.out⟩
set_option maxHeartbeats 800000 in
theorem iwithin_g {w : World} {vx vy : Value} {p q r s : Rat} {k : Nat} (hx : IRa w vx p q k) (hy : IRa w vy r s k) (hk : k < 48) (hk1 : 1 ≤ k) (h1 : r ≤ p) (h2 : ¬ q ≤ s) : Calls Tryd.prog 38 #[vx, vy] w (BPost false w) := by
  obtain ⟨xlb, xla, xln, xlc, xlh, xlm, xlg, xub, xua, xun, xuc, xuh, xum, xug, rfl, hxl, hxu⟩ := hx
  obtain ⟨ylb, yla, yln, ylc, ylh, ylm, ylg, yub, yua, yun, yuc, yuh, yum, yug, rfl, hyl, hyu⟩ := hy
  have KW_0 := Lib.hid (show Keep w ((w.alloc (.cells #[.bool xlb, .slice xla xln xlc, .slice xlh xlm xlg, .bool xub, .slice xua xun xuc, .slice xuh xum xug] 35)).alloc (.cells #[.bool ylb, .slice yla yln ylc, .slice ylh ylm ylg, .bool yub, .slice yua yun yuc, .slice yuh yum yug] 35)) from (Keep.alloc (Keep.alloc (Keep.refl _) _) _))
  have BX_0 := Lib.hid (show Bx (w.heap.size) [.bool xlb, .slice xla xln xlc, .slice xlh xlm xlg, .bool xub, .slice xua xun xuc, .slice xuh xum xug] ((w.alloc (.cells #[.bool xlb, .slice xla xln xlc, .slice xlh xlm xlg, .bool xub, .slice xua xun xuc, .slice xuh xum xug] 35)).alloc (.cells #[.bool ylb, .slice yla yln ylc, .slice ylh ylm ylg, .bool yub, .slice yua yun yuc, .slice yuh yum yug] 35)) from ((Bx.new w 35 (.b _ (.s _ _ _ (.s _ _ _ (.b _ (.s _ _ _ (.s _ _ _ .nil))))))).at (g' := w.heap.size) (by simp)).keep (Keep.alloc (Keep.refl _) _))
  have BY_0 := Lib.hid (show Bx (w.heap.size + 1) [.bool ylb, .slice yla yln ylc, .slice ylh ylm ylg, .bool yub, .slice yua yun yuc, .slice yuh yum yug] ((w.alloc (.cells #[.bool xlb, .slice xla xln xlc, .slice xlh xlm xlg, .bool xub, .slice xua xun xuc, .slice xuh xum xug] 35)).alloc (.cells #[.bool ylb, .slice yla yln ylc, .slice ylh ylm ylg, .bool yub, .slice yua yun yuc, .slice yuh yum yug] 35)) from ((Bx.new (w.alloc (.cells #[.bool xlb, .slice xla xln xlc, .slice xlh xlm xlg, .bool xub, .slice xua xun xuc, .slice xuh xum xug] 35)) 35 (.b _ (.s _ _ _ (.s _ _ _ (.b _ (.s _ _ _ (.s _ _ _ .nil))))))).at (g' := w.heap.size + 1) (by simp)).keep (Keep.refl _))
  have XL_0 := Lib.hid (hxl.keep KW_0.out)
  have XU_0 := Lib.hid (hxu.keep KW_0.out)
  have YL_0 := Lib.hid (hyl.keep KW_0.out)
  have YU_0 := Lib.hid (hyu.keep KW_0.out)
  have C1 := Lib.hid (fun w1 (h : Ra w1 (.agg #[.bool ylb, .slice yla yln ylc, .slice ylh ylm ylg]) r k) (h' : Ra w1 (.agg #[.bool xlb, .slice xla xln xlc, .slice xlh xlm xlg]) p k) => qcmp_c h h' hk hk1)
  have C2 := Lib.hid (fun w1 (h : Ra w1 (.agg #[.bool xub, .slice xua xun xuc, .slice xuh xum xug]) q k) (h' : Ra w1 (.agg #[.bool yub, .slice yua yun yuc, .slice yuh yum yug]) s k) => qcmp_c h h' hk hk1)
  obtain ⟨z1, hz1⟩ : ∃ z, rC r p = z := ⟨_, rfl⟩
  rw [hz1] at C1
  obtain ⟨z2, hz2⟩ : ∃ z, rC q s = z := ⟨_, rfl⟩
  rw [hz2] at C2
  have d1 : decide (z1 ≤ 0) = true := by rw [← hz1]; simpa [rC_le] using h1
  have d2 : decide (z2 ≤ 0) = false := by rw [← hz2]; simpa [rC_le] using h2
  clear hz1 hz2 h1 h2 hxl hxu hyl hyu
  go_enter Tryd.func38, Tryd.ntmps38
  obtain ⟨BX_c0, BX_c1, BX_c2, BX_c3, BX_c4, BX_c5, -, -, -, -, -, -⟩ := BX_0.out.c6
  obtain ⟨BY_c0, BY_c1, BY_c2, BY_c3, BY_c4, BY_c5, -, -, -, -, -, -⟩ := BY_0.out.c6
  go_wp2_with fail
  refine Calls.mono (C1.out _ YL_0.out XL_0.out) ?_
  rintro e w1 ⟨rfl, k1⟩
  clear BX_c0 BX_c1 BX_c2 BX_c3 BX_c4 BX_c5 BY_c0 BY_c1 BY_c2 BY_c3 BY_c4 BY_c5
  have BX_1 := Lib.hid (BX_0.out.keep k1)
  have BY_1 := Lib.hid (BY_0.out.keep k1)
  have XL_1 := Lib.hid (XL_0.out.keep k1)
  have XU_1 := Lib.hid (XU_0.out.keep k1)
  have YL_1 := Lib.hid (YL_0.out.keep k1)
  have YU_1 := Lib.hid (YU_0.out.keep k1)
  have KW_1 := Lib.hid (KW_0.out.trans k1)
  clear k1 BX_0 BY_0 XL_0 XU_0 YL_0 YU_0 KW_0
  obtain ⟨BX_c0, BX_c1, BX_c2, BX_c3, BX_c4, BX_c5, -, -, -, -, -, -⟩ := BX_1.out.c6
  obtain ⟨BY_c0, BY_c1, BY_c2, BY_c3, BY_c4, BY_c5, -, -, -, -, -, -⟩ := BY_1.out.c6
  go_wp2_with fail
  refine Calls.mono (C2.out _ XU_1.out YU_1.out) ?_
  rintro e w2 ⟨rfl, k2⟩
  clear BX_c0 BX_c1 BX_c2 BX_c3 BX_c4 BX_c5 BY_c0 BY_c1 BY_c2 BY_c3 BY_c4 BY_c5
  have BX_2 := Lib.hid (BX_1.out.keep k2)
  have BY_2 := Lib.hid (BY_1.out.keep k2)
  have XL_2 := Lib.hid (XL_1.out.keep k2)
  have XU_2 := Lib.hid (XU_1.out.keep k2)
  have YL_2 := Lib.hid (YL_1.out.keep k2)
  have YU_2 := Lib.hid (YU_1.out.keep k2)
  have KW_2 := Lib.hid (KW_1.out.trans k2)
  clear k2 BX_1 BY_1 XL_1 XU_1 YL_1 YU_1 KW_1
  obtain ⟨BX_c0, BX_c1, BX_c2, BX_c3, BX_c4, BX_c5, -, -, -, -, -, -⟩ := BX_2.out.c6
  obtain ⟨BY_c0, BY_c1, BY_c2, BY_c3, BY_c4, BY_c5, -, -, -, -, -, -⟩ := BY_2.out.c6
  go_wp2_with fail
  go_ret
  exact ⟨rfl, KW_2.out⟩
theorem iwithin_c {w : World} {vx vy : Value} {p q r s : Rat} {k : Nat} (hx : IRa w vx p q k) (hy : IRa w vy r s k) (hk : k < 48) (hk1 : 1 ≤ k) : Calls Tryd.prog 38 #[vx, vy] w (BPost (decide (r ≤ p ∧ q ≤ s)) w) := by
  by_cases h1 : r ≤ p
  · by_cases h2 : q ≤ s
    · rw [decide_eq_true ⟨h1, h2⟩]; exact iwithin_t hx hy hk hk1 h1 h2
    · rw [decide_eq_false (fun h => h2 h.2)]; exact iwithin_g hx hy hk hk1 h1 h2
  · rw [decide_eq_false (fun h => h1 h.1)]; exact iwithin_f hx hy hk hk1 h1
set_option maxHeartbeats 800000 in
theorem riwithin_t {w : World} {vx vy : Value} {p q r s : Rat} {k : Nat} (hx : IRa w vx p q k) (hy : IRa w vy r s k) (hk : k ≤ 100000) (hk1 : 1 ≤ k) (h1 : r ≤ p) (h2 : q ≤ s) : Calls Tryd.prog 39 #[vx, vy] w (BPost true w) := by
  obtain ⟨xlb, xla, xln, xlc, xlh, xlm, xlg, xub, xua, xun, xuc, xuh, xum, xug, rfl, hxl, hxu⟩ := hx
  obtain ⟨ylb, yla, yln, ylc, ylh, ylm, ylg, yub, yua, yun, yuc, yuh, yum, yug, rfl, hyl, hyu⟩ := hy
  have KW_0 := Lib.hid (show Keep w ((w.alloc (.cells #[.bool xlb, .slice xla xln xlc, .slice xlh xlm xlg, .bool xub, .slice xua xun xuc, .slice xuh xum xug] 35)).alloc (.cells #[.bool ylb, .slice yla yln ylc, .slice ylh ylm ylg, .bool yub, .slice yua yun yuc, .slice yuh yum yug] 35)) from (Keep.alloc (Keep.alloc (Keep.refl _) _) _))
  have BX_0 := Lib.hid (show Bx (w.heap.size) [.bool xlb, .slice xla xln xlc, .slice xlh xlm xlg, .bool xub, .slice xua xun xuc, .slice xuh xum xug] ((w.alloc (.cells #[.bool xlb, .slice xla xln xlc, .slice xlh xlm xlg, .bool xub, .slice xua xun xuc, .slice xuh xum xug] 35)).alloc (.cells #[.bool ylb, .slice yla yln ylc, .slice ylh ylm ylg, .bool yub, .slice yua yun yuc, .slice yuh yum yug] 35)) from ((Bx.new w 35 (.b _ (.s _ _ _ (.s _ _ _ (.b _ (.s _ _ _ (.s _ _ _ .nil))))))).at (g' := w.heap.size) (by simp)).keep (Keep.alloc (Keep.refl _) _))
  have BY_0 := Lib.hid (show Bx (w.heap.size + 1) [.bool ylb, .slice yla yln ylc, .slice ylh ylm ylg, .bool yub, .slice yua yun yuc, .slice yuh yum yug] ((w.alloc (.cells #[.bool xlb, .slice xla xln xlc, .slice xlh xlm xlg, .bool xub, .slice xua xun xuc, .slice xuh xum xug] 35)).alloc (.cells #[.bool ylb, .slice yla yln ylc, .slice ylh ylm ylg, .bool yub, .slice yua yun yuc, .slice yuh yum yug] 35)) from ((Bx.new (w.alloc (.cells #[.bool xlb, .slice xla xln xlc, .slice xlh xlm xlg, .bool xub, .slice xua xun xuc, .slice xuh xum xug] 35)) 35 (.b _ (.s _ _ _ (.s _ _ _ (.b _ (.s _ _ _ (.s _ _ _ .nil))))))).at (g' := w.heap.size + 1) (by simp)).keep (Keep.refl _))
  have XL_0 := Lib.hid (hxl.keep KW_0.out)
  have XU_0 := Lib.hid (hxu.keep KW_0.out)
  have YL_0 := Lib.hid (hyl.keep KW_0.out)
  have YU_0 := Lib.hid (hyu.keep KW_0.out)
  have C1 := Lib.hid (fun w1 (h : Ra w1 (.agg #[.bool ylb, .slice yla yln ylc, .slice ylh ylm ylg]) r k) (h' : Ra w1 (.agg #[.bool xlb, .slice xla xln xlc, .slice xlh xlm xlg]) p k) => rqcmp_c h h' hk hk1)
  have C2 := Lib.hid (fun w1 (h : Ra w1 (.agg #[.bool xub, .slice xua xun xuc, .slice xuh xum xug]) q k) (h' : Ra w1 (.agg #[.bool yub, .slice yua yun yuc, .slice yuh yum yug]) s k) => rqcmp_c h h' hk hk1)
  obtain ⟨z1, hz1⟩ : ∃ z, rC r p = z := ⟨_, rfl⟩
  rw [hz1] at C1
  obtain ⟨z2, hz2⟩ : ∃ z, rC q s = z := ⟨_, rfl⟩
  rw [hz2] at C2
  have d1 : decide (z1 ≤ 0) = true := by rw [← hz1]; simpa [rC_le] using h1
  have d2 : decide (z2 ≤ 0) = true := by rw [← hz2]; simpa [rC_le] using h2
  clear hz1 hz2 h1 h2 hxl hxu hyl hyu
  go_enter Tryd.func39, Tryd.ntmps39
  obtain ⟨BX_c0, BX_c1, BX_c2, BX_c3, BX_c4, BX_c5, -, -, -, -, -, -⟩ := BX_0.out.c6
  obtain ⟨BY_c0, BY_c1, BY_c2, BY_c3, BY_c4, BY_c5, -, -, -, -, -, -⟩ := BY_0.out.c6
  go_wp2_with fail
  refine Calls.mono (C1.out _ YL_0.out XL_0.out) ?_
  rintro e w1 ⟨rfl, k1⟩
  clear BX_c0 BX_c1 BX_c2 BX_c3 BX_c4 BX_c5 BY_c0 BY_c1 BY_c2 BY_c3 BY_c4 BY_c5
  have BX_1 := Lib.hid (BX_0.out.keep k1)
  have BY_1 := Lib.hid (BY_0.out.keep k1)
  have XL_1 := Lib.hid (XL_0.out.keep k1)
  have XU_1 := Lib.hid (XU_0.out.keep k1)
  have YL_1 := Lib.hid (YL_0.out.keep k1)
  have YU_1 := Lib.hid (YU_0.out.keep k1)
  have KW_1 := Lib.hid (KW_0.out.trans k1)
  clear k1 BX_0 BY_0 XL_0 XU_0 YL_0 YU_0 KW_0
  obtain ⟨BX_c0, BX_c1, BX_c2, BX_c3, BX_c4, BX_c5, -, -, -, -, -, -⟩ := BX_1.out.c6
  obtain ⟨BY_c0, BY_c1, BY_c2, BY_c3, BY_c4, BY_c5, -, -, -, -, -, -⟩ := BY_1.out.c6
  go_wp2_with fail
  refine Calls.mono (C2.out _ XU_1.out YU_1.out) ?_
  rintro e w2 ⟨rfl, k2⟩
  clear BX_c0 BX_c1 BX_c2 BX_c3 BX_c4 BX_c5 BY_c0 BY_c1 BY_c2 BY_c3 BY_c4 BY_c5
  have BX_2 := Lib.hid (BX_1.out.keep k2)
  have BY_2 := Lib.hid (BY_1.out.keep k2)
  have XL_2 := Lib.hid (XL_1.out.keep k2)
  have XU_2 := Lib.hid (XU_1.out.keep k2)
  have YL_2 := Lib.hid (YL_1.out.keep k2)
  have YU_2 := Lib.hid (YU_1.out.keep k2)
  have KW_2 := Lib.hid (KW_1.out.trans k2)
  clear k2 BX_1 BY_1 XL_1 XU_1 YL_1 YU_1 KW_1
  obtain ⟨BX_c0, BX_c1, BX_c2, BX_c3, BX_c4, BX_c5, -, -, -, -, -, -⟩ := BX_2.out.c6
  obtain ⟨BY_c0, BY_c1, BY_c2, BY_c3, BY_c4, BY_c5, -, -, -, -, -, -⟩ := BY_2.out.c6
  go_wp2_with fail
  go_ret
  exact ⟨rfl, KW_2.out⟩
set_option maxHeartbeats 800000 in
theorem riwithin_f {w : World} {vx vy : Value} {p q r s : Rat} {k : Nat} (hx : IRa w vx p q k) (hy : IRa w vy r s k) (hk : k ≤ 100000) (hk1 : 1 ≤ k)  (h1 : ¬ r ≤ p) : Calls Tryd.prog 39 #[vx, vy] w (BPost false w) := by
  obtain ⟨xlb, xla, xln, xlc, xlh, xlm, xlg, xub, xua, xun, xuc, xuh, xum, xug, rfl, hxl, hxu⟩ := hx
  obtain ⟨ylb, yla, yln, ylc, ylh, ylm, ylg, yub, yua, yun, yuc, yuh, yum, yug, rfl, hyl, hyu⟩ := hy
  have KW_0 := Lib.hid (show Keep w ((w.alloc (.cells #[.bool xlb, .slice xla xln xlc, .slice xlh xlm xlg, .bool xub, .slice xua xun xuc, .slice xuh xum xug] 35)).alloc (.cells #[.bool ylb, .slice yla yln ylc, .slice ylh ylm ylg, .bool yub, .slice yua yun yuc, .slice yuh yum yug] 35)) from (Keep.alloc (Keep.alloc (Keep.refl _) _) _))
  have BX_0 := Lib.hid (show Bx (w.heap.size) [.bool xlb, .slice xla xln xlc, .slice xlh xlm xlg, .bool xub, .slice xua xun xuc, .slice xuh xum xug] ((w.alloc (.cells #[.bool xlb, .slice xla xln xlc, .slice xlh xlm xlg, .bool xub, .slice xua xun xuc, .slice xuh xum xug] 35)).alloc (.cells #[.bool ylb, .slice yla yln ylc, .slice ylh ylm ylg, .bool yub, .slice yua yun yuc, .slice yuh yum yug] 35)) from ((Bx.new w 35 (.b _ (.s _ _ _ (.s _ _ _ (.b _ (.s _ _ _ (.s _ _ _ .nil))))))).at (g' := w.heap.size) (by simp)).keep (Keep.alloc (Keep.refl _) _))
  have BY_0 := Lib.hid (show Bx (w.heap.size + 1) [.bool ylb, .slice yla yln ylc, .slice ylh ylm ylg, .bool yub, .slice yua yun yuc, .slice yuh yum yug] ((w.alloc (.cells #[.bool xlb, .slice xla xln xlc, .slice xlh xlm xlg, .bool xub, .slice xua xun xuc, .slice xuh xum xug] 35)).alloc (.cells #[.bool ylb, .slice yla yln ylc, .slice ylh ylm ylg, .bool yub, .slice yua yun yuc, .slice yuh yum yug] 35)) from ((Bx.new (w.alloc (.cells #[.bool xlb, .slice xla xln xlc, .slice xlh xlm xlg, .bool xub, .slice xua xun xuc, .slice xuh xum xug] 35)) 35 (.b _ (.s _ _ _ (.s _ _ _ (.b _ (.s _ _ _ (.s _ _ _ .nil))))))).at (g' := w.heap.size + 1) (by simp)).keep (Keep.refl _))
  have XL_0 := Lib.hid (hxl.keep KW_0.out)
  have XU_0 := Lib.hid (hxu.keep KW_0.out)
  have YL_0 := Lib.hid (hyl.keep KW_0.out)
  have YU_0 := Lib.hid (hyu.keep KW_0.out)
  have C1 := Lib.hid (fun w1 (h : Ra w1 (.agg #[.bool ylb, .slice yla yln ylc, .slice ylh ylm ylg]) r k) (h' : Ra w1 (.agg #[.bool xlb, .slice xla xln xlc, .slice xlh xlm xlg]) p k) => rqcmp_c h h' hk hk1)
  have C2 := Lib.hid (fun w1 (h : Ra w1 (.agg #[.bool xub, .slice xua xun xuc, .slice xuh xum xug]) q k) (h' : Ra w1 (.agg #[.bool yub, .slice yua yun yuc, .slice yuh yum yug]) s k) => rqcmp_c h h' hk hk1)
  obtain ⟨z1, hz1⟩ : ∃ z, rC r p = z := ⟨_, rfl⟩
  rw [hz1] at C1
  obtain ⟨z2, hz2⟩ : ∃ z, rC q s = z := ⟨_, rfl⟩
  rw [hz2] at C2
  have d1 : decide (z1 ≤ 0) = false := by rw [← hz1]; simpa [rC_le] using h1
  clear hz1 hz2 h1  hxl hxu hyl hyu
  go_enter Tryd.func39, Tryd.ntmps39
  obtain ⟨BX_c0, BX_c1, BX_c2, BX_c3, BX_c4, BX_c5, -, -, -, -, -, -⟩ := BX_0.out.c6
  obtain ⟨BY_c0, BY_c1, BY_c2, BY_c3, BY_c4, BY_c5, -, -, -, -, -, -⟩ := BY_0.out.c6
  go_wp2_with fail
  refine Calls.mono (C1.out _ YL_0.out XL_0.out) ?_
  rintro e w1 ⟨rfl, k1⟩
  clear BX_c0 BX_c1 BX_c2 BX_c3 BX_c4 BX_c5 BY_c0 BY_c1 BY_c2 BY_c3 BY_c4 BY_c5
  have BX_1 := Lib.hid (BX_0.out.keep k1)
  have BY_1 := Lib.hid (BY_0.out.keep k1)
  have XL_1 := Lib.hid (XL_0.out.keep k1)
  have XU_1 := Lib.hid (XU_0.out.keep k1)
  have YL_1 := Lib.hid (YL_0.out.keep k1)
  have YU_1 := Lib.hid (YU_0.out.keep k1)
  have KW_1 := Lib.hid (KW_0.out.trans k1)
  clear k1 BX_0 BY_0 XL_0 XU_0 YL_0 YU_0 KW_0
  obtain ⟨BX_c0, BX_c1, BX_c2, BX_c3, BX_c4, BX_c5, -, -, -, -, -, -⟩ := BX_1.out.c6
  obtain ⟨BY_c0, BY_c1, BY_c2, BY_c3, BY_c4, BY_c5, -, -, -, -, -, -⟩ := BY_1.out.c6
  go_wp2_with fail
  go_ret
  exact ⟨rfl, KW_1.out⟩
set_option maxHeartbeats 800000 in
theorem riwithin_g {w : World} {vx vy : Value} {p q r s : Rat} {k : Nat} (hx : IRa w vx p q k) (hy : IRa w vy r s k) (hk : k ≤ 100000) (hk1 : 1 ≤ k) (h1 : r ≤ p) (h2 : ¬ q ≤ s) : Calls Tryd.prog 39 #[vx, vy] w (BPost false w) := by
  obtain ⟨xlb, xla, xln, xlc, xlh, xlm, xlg, xub, xua, xun, xuc, xuh, xum, xug, rfl, hxl, hxu⟩ := hx
  obtain ⟨ylb, yla, yln, ylc, ylh, ylm, ylg, yub, yua, yun, yuc, yuh, yum, yug, rfl, hyl, hyu⟩ := hy
  have KW_0 := Lib.hid (show Keep w ((w.alloc (.cells #[.bool xlb, .slice xla xln xlc, .slice xlh xlm xlg, .bool xub, .slice xua xun xuc, .slice xuh xum xug] 35)).alloc (.cells #[.bool ylb, .slice yla yln ylc, .slice ylh ylm ylg, .bool yub, .slice yua yun yuc, .slice yuh yum yug] 35)) from (Keep.alloc (Keep.alloc (Keep.refl _) _) _))
  have BX_0 := Lib.hid (show Bx (w.heap.size) [.bool xlb, .slice xla xln xlc, .slice xlh xlm xlg, .bool xub, .slice xua xun xuc, .slice xuh xum xug] ((w.alloc (.cells #[.bool xlb, .slice xla xln xlc, .slice xlh xlm xlg, .bool xub, .slice xua xun xuc, .slice xuh xum xug] 35)).alloc (.cells #[.bool ylb, .slice yla yln ylc, .slice ylh ylm ylg, .bool yub, .slice yua yun yuc, .slice yuh yum yug] 35)) from ((Bx.new w 35 (.b _ (.s _ _ _ (.s _ _ _ (.b _ (.s _ _ _ (.s _ _ _ .nil))))))).at (g' := w.heap.size) (by simp)).keep (Keep.alloc (Keep.refl _) _))
  have BY_0 := Lib.hid (show Bx (w.heap.size + 1) [.bool ylb, .slice yla yln ylc, .slice ylh ylm ylg, .bool yub, .slice yua yun yuc, .slice yuh yum yug] ((w.alloc (.cells #[.bool xlb, .slice xla xln xlc, .slice xlh xlm xlg, .bool xub, .slice xua xun xuc, .slice xuh xum xug] 35)).alloc (.cells #[.bool ylb, .slice yla yln ylc, .slice ylh ylm ylg, .bool yub, .slice yua yun yuc, .slice yuh yum yug] 35)) from ((Bx.new (w.alloc (.cells #[.bool xlb, .slice xla xln xlc, .slice xlh xlm xlg, .bool xub, .slice xua xun xuc, .slice xuh xum xug] 35)) 35 (.b _ (.s _ _ _ (.s _ _ _ (.b _ (.s _ _ _ (.s _ _ _ .nil))))))).at (g' := w.heap.size + 1) (by simp)).keep (Keep.refl _))
  have XL_0 := Lib.hid (hxl.keep KW_0.out)
  have XU_0 := Lib.hid (hxu.keep KW_0.out)
  have YL_0 := Lib.hid (hyl.keep KW_0.out)
  have YU_0 := Lib.hid (hyu.keep KW_0.out)
  have C1 := Lib.hid (fun w1 (h : Ra w1 (.agg #[.bool ylb, .slice yla yln ylc, .slice ylh ylm ylg]) r k) (h' : Ra w1 (.agg #[.bool xlb, .slice xla xln xlc, .slice xlh xlm xlg]) p k) => rqcmp_c h h' hk hk1)
  have C2 := Lib.hid (fun w1 (h : Ra w1 (.agg #[.bool xub, .slice xua xun xuc, .slice xuh xum xug]) q k) (h' : Ra w1 (.agg #[.bool yub, .slice yua yun yuc, .slice yuh yum yug]) s k) => rqcmp_c h h' hk hk1)
  obtain ⟨z1, hz1⟩ : ∃ z, rC r p = z := ⟨_, rfl⟩
  rw [hz1] at C1
  obtain ⟨z2, hz2⟩ : ∃ z, rC q s = z := ⟨_, rfl⟩
  rw [hz2] at C2
  have d1 : decide (z1 ≤ 0) = true := by rw [← hz1]; simpa [rC_le] using h1
  have d2 : decide (z2 ≤ 0) = false := by rw [← hz2]; simpa [rC_le] using h2
  clear hz1 hz2 h1 h2 hxl hxu hyl hyu
  go_enter Tryd.func39, Tryd.ntmps39
  obtain ⟨BX_c0, BX_c1, BX_c2, BX_c3, BX_c4, BX_c5, -, -, -, -, -, -⟩ := BX_0.out.c6
  obtain ⟨BY_c0, BY_c1, BY_c2, BY_c3, BY_c4, BY_c5, -, -, -, -, -, -⟩ := BY_0.out.c6
  go_wp2_with fail
  refine Calls.mono (C1.out _ YL_0.out XL_0.out) ?_
  rintro e w1 ⟨rfl, k1⟩
  clear BX_c0 BX_c1 BX_c2 BX_c3 BX_c4 BX_c5 BY_c0 BY_c1 BY_c2 BY_c3 BY_c4 BY_c5
  have BX_1 := Lib.hid (BX_0.out.keep k1)
  have BY_1 := Lib.hid (BY_0.out.keep k1)
  have XL_1 := Lib.hid (XL_0.out.keep k1)
  have XU_1 := Lib.hid (XU_0.out.keep k1)
  have YL_1 := Lib.hid (YL_0.out.keep k1)
  have YU_1 := Lib.hid (YU_0.out.keep k1)
  have KW_1 := Lib.hid (KW_0.out.trans k1)
  clear k1 BX_0 BY_0 XL_0 XU_0 YL_0 YU_0 KW_0
  obtain ⟨BX_c0, BX_c1, BX_c2, BX_c3, BX_c4, BX_c5, -, -, -, -, -, -⟩ := BX_1.out.c6
  obtain ⟨BY_c0, BY_c1, BY_c2, BY_c3, BY_c4, BY_c5, -, -, -, -, -, -⟩ := BY_1.out.c6
  go_wp2_with fail
  refine Calls.mono (C2.out _ XU_1.out YU_1.out) ?_
  rintro e w2 ⟨rfl, k2⟩
  clear BX_c0 BX_c1 BX_c2 BX_c3 BX_c4 BX_c5 BY_c0 BY_c1 BY_c2 BY_c3 BY_c4 BY_c5
  have BX_2 := Lib.hid (BX_1.out.keep k2)
  have BY_2 := Lib.hid (BY_1.out.keep k2)
  have XL_2 := Lib.hid (XL_1.out.keep k2)
  have XU_2 := Lib.hid (XU_1.out.keep k2)
  have YL_2 := Lib.hid (YL_1.out.keep k2)
  have YU_2 := Lib.hid (YU_1.out.keep k2)
  have KW_2 := Lib.hid (KW_1.out.trans k2)
  clear k2 BX_1 BY_1 XL_1 XU_1 YL_1 YU_1 KW_1
  obtain ⟨BX_c0, BX_c1, BX_c2, BX_c3, BX_c4, BX_c5, -, -, -, -, -, -⟩ := BX_2.out.c6
  obtain ⟨BY_c0, BY_c1, BY_c2, BY_c3, BY_c4, BY_c5, -, -, -, -, -, -⟩ := BY_2.out.c6
  go_wp2_with fail
  go_ret
  exact ⟨rfl, KW_2.out⟩
theorem riwithin_c {w : World} {vx vy : Value} {p q r s : Rat} {k : Nat} (hx : IRa w vx p q k) (hy : IRa w vy r s k) (hk : k ≤ 100000) (hk1 : 1 ≤ k) : Calls Tryd.prog 39 #[vx, vy] w (BPost (decide (r ≤ p ∧ q ≤ s)) w) := by
  by_cases h1 : r ≤ p
  · by_cases h2 : q ≤ s
    · rw [decide_eq_true ⟨h1, h2⟩]; exact riwithin_t hx hy hk hk1 h1 h2
    · rw [decide_eq_false (fun h => h2 h.2)]; exact riwithin_g hx hy hk hk1 h1 h2
  · rw [decide_eq_false (fun h => h1 h.1)]; exact riwithin_f hx hy hk hk1 h1
end Go.Proofs.YtbcakefhknjbeaaDoor
