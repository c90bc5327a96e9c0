/- Walks of layer 6: the law of Join. -/
import Derived.Test.YtbcakefhknjbeaaDoorJA
import Derived.Test.YtbcakefhknjbeaaDoorJ7
import Derived.Deep.RegionWith
namespace Go.Proofs.YtbcakefhknjbeaaDoor
open Go.RowKit
set_option linter.unusedVariables false
set_option linter.unusedSimpArgs false
theorem hd {p : Prop} (h : p) : Hid p := Lib.hid h
theorem Bx.d3 {g : Nat} {a b c : Value} {w : World} (h : Bx g [a, b, c] w) : w.cell? ⟨g, 0, none⟩ = some a ∧ w.cell? ⟨g, 1, none⟩ = some b ∧ w.cell? ⟨g, 2, none⟩ = some c := ⟨h.cl 0 _ rfl, h.cl 1 _ rfl, h.cl 2 _ rfl⟩
theorem Bx.d6 {g : Nat} {a b c d e f : Value} {w : World} (h : Bx g [a, b, c, d, e, f] w) : w.cell? ⟨g, 0, none⟩ = some a ∧ w.cell? ⟨g, 1, none⟩ = some b ∧ w.cell? ⟨g, 2, none⟩ = some c ∧ w.cell? ⟨g, 3, none⟩ = some d ∧ w.cell? ⟨g, 4, none⟩ = some e ∧ w.cell? ⟨g, 5, none⟩ = some f :=
  ⟨h.cl 0 _ rfl, h.cl 1 _ rfl, h.cl 2 _ rfl, h.cl 3 _ rfl, h.cl 4 _ rfl, h.cl 5 _ rfl⟩
theorem rmin_le (p q : Rat) : rmin p q ≤ p ∧ rmin p q ≤ q := by have := rmin_facts p q; grind
theorem le_rmax (p q : Rat) : p ≤ rmax p q ∧ q ≤ rmax p q := by have := rmax_facts p q; grind
theorem meet_in (p q r s x : Rat) : (rmax p r ≤ x ∧ x ≤ rmin q s) ↔ (p ≤ x ∧ x ≤ q) ∧ (r ≤ x ∧ x ≤ s) := by have := rmax_facts p r; have := rmin_facts q s; grind
theorem meet_no {p q r s : Rat} (h : 0 < rC (rmax p r) (rmin q s)) (x : Rat) : ¬ ((p ≤ x ∧ x ≤ q) ∧ (r ≤ x ∧ x ≤ s)) := by
  rw [rC_pos] at h
  rw [← meet_in]
  grind
theorem meet_and (p q r s x : Rat) : decide (rmax p r ≤ x ∧ x ≤ rmin q s) = (decide (p ≤ x ∧ x ≤ q) && decide (r ≤ x ∧ x ≤ s)) := by
  rw [decide_eq_decide.2 (meet_in p q r s x), Bool.decide_and]
theorem meet_false {p q r s : Rat} (h : 0 < rC (rmax p r) (rmin q s)) (x : Rat) : (decide (p ≤ x ∧ x ≤ q) && decide (r ≤ x ∧ x ≤ s)) = false := by
  rw [← Bool.decide_and]; exact decide_eq_false (meet_no h x)
set_option maxHeartbeats 4000000 in
theorem join_law_b0 {w : World} {xlb : Bool} {xla xlh : Option Addr} {xln xlc xlm xlg : Nat} {xub : Bool} {xua xuh : Option Addr} {xun xuc xum xug : Nat} {xl1 xl2 xu1 xu2 : List Nat} (hx1 : Rd w xla xln xlc xl1) (hx2 : Rd w xlh xlm xlg xl2) (hx3 : Rd w xua xun xuc xu1) (hx4 : Rd w xuh xum xug xu2) {ylb : Bool} {yla ylh : Option Addr} {yln ylc ylm ylg : Nat} {yub : Bool} {yua yuh : Option Addr} {yun yuc yum yug : Nat} {yl1 yl2 yu1 yu2 : List Nat} (hy1 : Rd w yla yln ylc yl1) (hy2 : Rd w ylh ylm ylg yl2) (hy3 : Rd w yua yun yuc yu1) (hy4 : Rd w yuh yum yug yu2) (part : Int) (hT : Tab w) (ex : smallB xlb xl1 xl2 xub xu1 xu2 = false) : Calls Tryd.prog 7 #[.agg #[.bool xlb, .slice xla xln xlc, .slice xlh xlm xlg, .bool xub, .slice xua xun xuc, .slice xuh xum xug], .agg #[.bool ylb, .slice yla yln ylc, .slice ylh ylm ylg, .bool yub, .slice yua yun yuc, .slice yuh yum yug], .int .u8 part] w (BPost true w) := by
  have KW_0 := hd (show Keep w ((w.alloc (.cells #[.bool xlb, .slice xla xln xlc, .slice xlh xlm xlg, .bool xub, .slice xua xun xuc, .slice xuh xum xug] 35)).alloc (.cells #[.bool ylb, .slice yla yln ylc, .slice ylh ylm ylg, .bool yub, .slice yua yun yuc, .slice yuh yum yug] 35)) from (Keep.alloc (Keep.alloc (Keep.refl _) _) _))
  have BX_0 := hd (show Bx (w.heap.size) [.bool xlb, .slice xla xln xlc, .slice xlh xlm xlg, .bool xub, .slice xua xun xuc, .slice xuh xum xug] ((w.alloc (.cells #[.bool xlb, .slice xla xln xlc, .slice xlh xlm xlg, .bool xub, .slice xua xun xuc, .slice xuh xum xug] 35)).alloc (.cells #[.bool ylb, .slice yla yln ylc, .slice ylh ylm ylg, .bool yub, .slice yua yun yuc, .slice yuh yum yug] 35)) from ((Bx.new w 35 (.b _ (.s _ _ _ (.s _ _ _ (.b _ (.s _ _ _ (.s _ _ _ .nil))))))).at (g' := w.heap.size) (by simp)).keep (Keep.alloc (Keep.refl _) _))
  have BY_0 := hd (show Bx (w.heap.size + 1) [.bool ylb, .slice yla yln ylc, .slice ylh ylm ylg, .bool yub, .slice yua yun yuc, .slice yuh yum yug] ((w.alloc (.cells #[.bool xlb, .slice xla xln xlc, .slice xlh xlm xlg, .bool xub, .slice xua xun xuc, .slice xuh xum xug] 35)).alloc (.cells #[.bool ylb, .slice yla yln ylc, .slice ylh ylm ylg, .bool yub, .slice yua yun yuc, .slice yuh yum yug] 35)) from ((Bx.new (w.alloc (.cells #[.bool xlb, .slice xla xln xlc, .slice xlh xlm xlg, .bool xub, .slice xua xun xuc, .slice xuh xum xug] 35)) 35 (.b _ (.s _ _ _ (.s _ _ _ (.b _ (.s _ _ _ (.s _ _ _ .nil))))))).at (g' := w.heap.size + 1) (by simp)).keep (Keep.refl _))
  have X1_0 := hd (hx1.below KW_0.out)
  have X2_0 := hd (hx2.below KW_0.out)
  have X3_0 := hd (hx3.below KW_0.out)
  have X4_0 := hd (hx4.below KW_0.out)
  have T_0 := hd (hT.keep KW_0.out)
  have AW := hd (fun w1 (hT1 : Tab w1) => awake6_c w1 hT1)
  have Sx := hd (fun w1 (h1 : Rd w1 xla xln xlc xl1) (h2 : Rd w1 xlh xlm xlg xl2) (h3 : Rd w1 xua xun xuc xu1) (h4 : Rd w1 xuh xum xug xu2) => small_c (w := w1) (xlb := xlb) (xub := xub) h1 h2 h3 h4)
  rw [ex] at Sx
  clear hT hx1 hx2 hx3 hx4 hy1 hy2 hy3 hy4 ex
  go_enter Tryd.func7, Tryd.ntmps7
  obtain ⟨BX_c0, BX_c1, BX_c2, BX_c3, BX_c4, BX_c5, -, -, -, -, -, -⟩ := BX_0.out.c6
  obtain ⟨BY_c0, BY_c1, BY_c2, BY_c3, BY_c4, BY_c5, -, -, -, -, -, -⟩ := BY_0.out.c6
  go_wp2_with fail
  refine Calls.mono (AW.out _ T_0.out) ?_
  rintro e w1 ⟨rfl, k1⟩
  clear BX_c0 BX_c1 BX_c2 BX_c3 BX_c4 BX_c5 BY_c0 BY_c1 BY_c2 BY_c3 BY_c4 BY_c5
  have BX_1 := hd (BX_0.out.keep k1)
  have BY_1 := hd (BY_0.out.keep k1)
  have X1_1 := hd (X1_0.out.keep k1)
  have X2_1 := hd (X2_0.out.keep k1)
  have X3_1 := hd (X3_0.out.keep k1)
  have X4_1 := hd (X4_0.out.keep k1)
  have T_1 := hd (T_0.out.keep k1)
  have KW_1 := hd (KW_0.out.trans k1)
  clear k1 BX_0 BY_0 X1_0 X2_0 X3_0 X4_0 T_0 KW_0
  obtain ⟨BX_c0, BX_c1, BX_c2, BX_c3, BX_c4, BX_c5, -, -, -, -, -, -⟩ := BX_1.out.c6
  obtain ⟨BY_c0, BY_c1, BY_c2, BY_c3, BY_c4, BY_c5, -, -, -, -, -, -⟩ := BY_1.out.c6
  go_wp2_with fail
  refine Calls.mono (Sx.out _ X1_1.out X2_1.out X3_1.out X4_1.out) ?_
  rintro e w2 ⟨rfl, k2⟩
  clear BX_c0 BX_c1 BX_c2 BX_c3 BX_c4 BX_c5 BY_c0 BY_c1 BY_c2 BY_c3 BY_c4 BY_c5
  have BX_2 := hd (BX_1.out.keep k2)
  have BY_2 := hd (BY_1.out.keep k2)
  have X1_2 := hd (X1_1.out.keep k2)
  have X2_2 := hd (X2_1.out.keep k2)
  have X3_2 := hd (X3_1.out.keep k2)
  have X4_2 := hd (X4_1.out.keep k2)
  have T_2 := hd (T_1.out.keep k2)
  have KW_2 := hd (KW_1.out.trans k2)
  clear k2 BX_1 BY_1 X1_1 X2_1 X3_1 X4_1 T_1 KW_1
  obtain ⟨BX_c0, BX_c1, BX_c2, BX_c3, BX_c4, BX_c5, -, -, -, -, -, -⟩ := BX_2.out.c6
  obtain ⟨BY_c0, BY_c1, BY_c2, BY_c3, BY_c4, BY_c5, -, -, -, -, -, -⟩ := BY_2.out.c6
  go_wp2_with fail
  go_ret
  exact ⟨rfl, KW_2.out⟩
set_option maxHeartbeats 4000000 in
theorem join_law_b1 {w : World} {xlb : Bool} {xla xlh : Option Addr} {xln xlc xlm xlg : Nat} {xub : Bool} {xua xuh : Option Addr} {xun xuc xum xug : Nat} {xl1 xl2 xu1 xu2 : List Nat} (hx1 : Rd w xla xln xlc xl1) (hx2 : Rd w xlh xlm xlg xl2) (hx3 : Rd w xua xun xuc xu1) (hx4 : Rd w xuh xum xug xu2) {ylb : Bool} {yla ylh : Option Addr} {yln ylc ylm ylg : Nat} {yub : Bool} {yua yuh : Option Addr} {yun yuc yum yug : Nat} {yl1 yl2 yu1 yu2 : List Nat} (hy1 : Rd w yla yln ylc yl1) (hy2 : Rd w ylh ylm ylg yl2) (hy3 : Rd w yua yun yuc yu1) (hy4 : Rd w yuh yum yug yu2) (part : Int) (hT : Tab w) (ex : smallB xlb xl1 xl2 xub xu1 xu2 = true) (ey : smallB ylb yl1 yl2 yub yu1 yu2 = false) : Calls Tryd.prog 7 #[.agg #[.bool xlb, .slice xla xln xlc, .slice xlh xlm xlg, .bool xub, .slice xua xun xuc, .slice xuh xum xug], .agg #[.bool ylb, .slice yla yln ylc, .slice ylh ylm ylg, .bool yub, .slice yua yun yuc, .slice yuh yum yug], .int .u8 part] w (BPost true w) := by
  have KW_0 := hd (show Keep w ((w.alloc (.cells #[.bool xlb, .slice xla xln xlc, .slice xlh xlm xlg, .bool xub, .slice xua xun xuc, .slice xuh xum xug] 35)).alloc (.cells #[.bool ylb, .slice yla yln ylc, .slice ylh ylm ylg, .bool yub, .slice yua yun yuc, .slice yuh yum yug] 35)) from (Keep.alloc (Keep.alloc (Keep.refl _) _) _))
  have BX_0 := hd (show Bx (w.heap.size) [.bool xlb, .slice xla xln xlc, .slice xlh xlm xlg, .bool xub, .slice xua xun xuc, .slice xuh xum xug] ((w.alloc (.cells #[.bool xlb, .slice xla xln xlc, .slice xlh xlm xlg, .bool xub, .slice xua xun xuc, .slice xuh xum xug] 35)).alloc (.cells #[.bool ylb, .slice yla yln ylc, .slice ylh ylm ylg, .bool yub, .slice yua yun yuc, .slice yuh yum yug] 35)) from ((Bx.new w 35 (.b _ (.s _ _ _ (.s _ _ _ (.b _ (.s _ _ _ (.s _ _ _ .nil))))))).at (g' := w.heap.size) (by simp)).keep (Keep.alloc (Keep.refl _) _))
  have BY_0 := hd (show Bx (w.heap.size + 1) [.bool ylb, .slice yla yln ylc, .slice ylh ylm ylg, .bool yub, .slice yua yun yuc, .slice yuh yum yug] ((w.alloc (.cells #[.bool xlb, .slice xla xln xlc, .slice xlh xlm xlg, .bool xub, .slice xua xun xuc, .slice xuh xum xug] 35)).alloc (.cells #[.bool ylb, .slice yla yln ylc, .slice ylh ylm ylg, .bool yub, .slice yua yun yuc, .slice yuh yum yug] 35)) from ((Bx.new (w.alloc (.cells #[.bool xlb, .slice xla xln xlc, .slice xlh xlm xlg, .bool xub, .slice xua xun xuc, .slice xuh xum xug] 35)) 35 (.b _ (.s _ _ _ (.s _ _ _ (.b _ (.s _ _ _ (.s _ _ _ .nil))))))).at (g' := w.heap.size + 1) (by simp)).keep (Keep.refl _))
  have X1_0 := hd (hx1.below KW_0.out)
  have X2_0 := hd (hx2.below KW_0.out)
  have X3_0 := hd (hx3.below KW_0.out)
  have X4_0 := hd (hx4.below KW_0.out)
  have Y1_0 := hd (hy1.below KW_0.out)
  have Y2_0 := hd (hy2.below KW_0.out)
  have Y3_0 := hd (hy3.below KW_0.out)
  have Y4_0 := hd (hy4.below KW_0.out)
  have T_0 := hd (hT.keep KW_0.out)
  have AW := hd (fun w1 (hT1 : Tab w1) => awake6_c w1 hT1)
  have Sx := hd (fun w1 (h1 : Rd w1 xla xln xlc xl1) (h2 : Rd w1 xlh xlm xlg xl2) (h3 : Rd w1 xua xun xuc xu1) (h4 : Rd w1 xuh xum xug xu2) => small_c (w := w1) (xlb := xlb) (xub := xub) h1 h2 h3 h4)
  rw [ex] at Sx
  have Sy := hd (fun w1 (h1 : Rd w1 yla yln ylc yl1) (h2 : Rd w1 ylh ylm ylg yl2) (h3 : Rd w1 yua yun yuc yu1) (h4 : Rd w1 yuh yum yug yu2) => small_c (w := w1) (xlb := ylb) (xub := yub) h1 h2 h3 h4)
  rw [ey] at Sy
  clear hT hx1 hx2 hx3 hx4 hy1 hy2 hy3 hy4 ex ey
  go_enter Tryd.func7, Tryd.ntmps7
  obtain ⟨BX_c0, BX_c1, BX_c2, BX_c3, BX_c4, BX_c5, -, -, -, -, -, -⟩ := BX_0.out.c6
  obtain ⟨BY_c0, BY_c1, BY_c2, BY_c3, BY_c4, BY_c5, -, -, -, -, -, -⟩ := BY_0.out.c6
  go_wp2_with fail
  refine Calls.mono (AW.out _ T_0.out) ?_
  rintro e w1 ⟨rfl, k1⟩
  clear BX_c0 BX_c1 BX_c2 BX_c3 BX_c4 BX_c5 BY_c0 BY_c1 BY_c2 BY_c3 BY_c4 BY_c5
  have BX_1 := hd (BX_0.out.keep k1)
  have BY_1 := hd (BY_0.out.keep k1)
  have X1_1 := hd (X1_0.out.keep k1)
  have X2_1 := hd (X2_0.out.keep k1)
  have X3_1 := hd (X3_0.out.keep k1)
  have X4_1 := hd (X4_0.out.keep k1)
  have Y1_1 := hd (Y1_0.out.keep k1)
  have Y2_1 := hd (Y2_0.out.keep k1)
  have Y3_1 := hd (Y3_0.out.keep k1)
  have Y4_1 := hd (Y4_0.out.keep k1)
  have T_1 := hd (T_0.out.keep k1)
  have KW_1 := hd (KW_0.out.trans k1)
  clear k1 BX_0 BY_0 X1_0 X2_0 X3_0 X4_0 Y1_0 Y2_0 Y3_0 Y4_0 T_0 KW_0
  obtain ⟨BX_c0, BX_c1, BX_c2, BX_c3, BX_c4, BX_c5, -, -, -, -, -, -⟩ := BX_1.out.c6
  obtain ⟨BY_c0, BY_c1, BY_c2, BY_c3, BY_c4, BY_c5, -, -, -, -, -, -⟩ := BY_1.out.c6
  go_wp2_with fail
  refine Calls.mono (Sx.out _ X1_1.out X2_1.out X3_1.out X4_1.out) ?_
  rintro e w2 ⟨rfl, k2⟩
  clear BX_c0 BX_c1 BX_c2 BX_c3 BX_c4 BX_c5 BY_c0 BY_c1 BY_c2 BY_c3 BY_c4 BY_c5
  have BX_2 := hd (BX_1.out.keep k2)
  have BY_2 := hd (BY_1.out.keep k2)
  have X1_2 := hd (X1_1.out.keep k2)
  have X2_2 := hd (X2_1.out.keep k2)
  have X3_2 := hd (X3_1.out.keep k2)
  have X4_2 := hd (X4_1.out.keep k2)
  have Y1_2 := hd (Y1_1.out.keep k2)
  have Y2_2 := hd (Y2_1.out.keep k2)
  have Y3_2 := hd (Y3_1.out.keep k2)
  have Y4_2 := hd (Y4_1.out.keep k2)
  have T_2 := hd (T_1.out.keep k2)
  have KW_2 := hd (KW_1.out.trans k2)
  clear k2 BX_1 BY_1 X1_1 X2_1 X3_1 X4_1 Y1_1 Y2_1 Y3_1 Y4_1 T_1 KW_1
  obtain ⟨BX_c0, BX_c1, BX_c2, BX_c3, BX_c4, BX_c5, -, -, -, -, -, -⟩ := BX_2.out.c6
  obtain ⟨BY_c0, BY_c1, BY_c2, BY_c3, BY_c4, BY_c5, -, -, -, -, -, -⟩ := BY_2.out.c6
  go_wp2_with fail
  refine Calls.mono (Sy.out _ Y1_2.out Y2_2.out Y3_2.out Y4_2.out) ?_
  rintro e w3 ⟨rfl, k3⟩
  clear BX_c0 BX_c1 BX_c2 BX_c3 BX_c4 BX_c5 BY_c0 BY_c1 BY_c2 BY_c3 BY_c4 BY_c5
  have BX_3 := hd (BX_2.out.keep k3)
  have BY_3 := hd (BY_2.out.keep k3)
  have X1_3 := hd (X1_2.out.keep k3)
  have X2_3 := hd (X2_2.out.keep k3)
  have X3_3 := hd (X3_2.out.keep k3)
  have X4_3 := hd (X4_2.out.keep k3)
  have Y1_3 := hd (Y1_2.out.keep k3)
  have Y2_3 := hd (Y2_2.out.keep k3)
  have Y3_3 := hd (Y3_2.out.keep k3)
  have Y4_3 := hd (Y4_2.out.keep k3)
  have T_3 := hd (T_2.out.keep k3)
  have KW_3 := hd (KW_2.out.trans k3)
  clear k3 BX_2 BY_2 X1_2 X2_2 X3_2 X4_2 Y1_2 Y2_2 Y3_2 Y4_2 T_2 KW_2
  obtain ⟨BX_c0, BX_c1, BX_c2, BX_c3, BX_c4, BX_c5, -, -, -, -, -, -⟩ := BX_3.out.c6
  obtain ⟨BY_c0, BY_c1, BY_c2, BY_c3, BY_c4, BY_c5, -, -, -, -, -, -⟩ := BY_3.out.c6
  go_wp2_with fail
  go_ret
  exact ⟨rfl, KW_3.out⟩
set_option maxRecDepth 100000 in
set_option maxHeartbeats 8000000 in
theorem join_law_s0 {w : World} {xlb : Bool} {xla xlh : Option Addr} {xln xlc xlm xlg : Nat} {xub : Bool} {xua xuh : Option Addr} {xun xuc xum xug : Nat} {xl1 xl2 xu1 xu2 : List Nat} (hx1 : Rd w xla xln xlc xl1) (hx2 : Rd w xlh xlm xlg xl2) (hx3 : Rd w xua xun xuc xu1) (hx4 : Rd w xuh xum xug xu2) {ylb : Bool} {yla ylh : Option Addr} {yln ylc ylm ylg : Nat} {yub : Bool} {yua yuh : Option Addr} {yun yuc yum yug : Nat} {yl1 yl2 yu1 yu2 : List Nat} (hy1 : Rd w yla yln ylc yl1) (hy2 : Rd w ylh ylm ylg yl2) (hy3 : Rd w yua yun yuc yu1) (hy4 : Rd w yuh yum yug yu2) (part : Int) (hT : Tab w) (hp0 : 0 ≤ part) (hp1 : part ≤ 255) (ex : smallB xlb xl1 xl2 xub xu1 xu2 = true) (ey : smallB ylb yl1 yl2 yub yu1 yu2 = true) {p q r s : Rat} (gp : rv xlb (nv xl1) (nv xl2) = p) (gq : rv xub (nv xu1) (nv xu2) = q) (gr : rv ylb (nv yl1) (nv yl2) = r) (gs : rv yub (nv yu1) (nv yu2) = s) (hc : ¬ 0 < rC (rmax p r) (rmin q s)) : Calls Tryd.prog 7 #[.agg #[.bool xlb, .slice xla xln xlc, .slice xlh xlm xlg, .bool xub, .slice xua xun xuc, .slice xuh xum xug], .agg #[.bool ylb, .slice yla yln ylc, .slice ylh ylm ylg, .bool yub, .slice yua yun yuc, .slice yuh yum yug], .int .u8 part] w (BPost true w) := by
  have KW_0 := hd (show Keep w ((w.alloc (.cells #[.bool xlb, .slice xla xln xlc, .slice xlh xlm xlg, .bool xub, .slice xua xun xuc, .slice xuh xum xug] 35)).alloc (.cells #[.bool ylb, .slice yla yln ylc, .slice ylh ylm ylg, .bool yub, .slice yua yun yuc, .slice yuh yum yug] 35)) from (Keep.alloc (Keep.alloc (Keep.refl _) _) _))
  have BX_0 := hd (show Bx (w.heap.size) [.bool xlb, .slice xla xln xlc, .slice xlh xlm xlg, .bool xub, .slice xua xun xuc, .slice xuh xum xug] ((w.alloc (.cells #[.bool xlb, .slice xla xln xlc, .slice xlh xlm xlg, .bool xub, .slice xua xun xuc, .slice xuh xum xug] 35)).alloc (.cells #[.bool ylb, .slice yla yln ylc, .slice ylh ylm ylg, .bool yub, .slice yua yun yuc, .slice yuh yum yug] 35)) from ((Bx.new w 35 (.b _ (.s _ _ _ (.s _ _ _ (.b _ (.s _ _ _ (.s _ _ _ .nil))))))).at (g' := w.heap.size) (by simp)).keep (Keep.alloc (Keep.refl _) _))
  have BY_0 := hd (show Bx (w.heap.size + 1) [.bool ylb, .slice yla yln ylc, .slice ylh ylm ylg, .bool yub, .slice yua yun yuc, .slice yuh yum yug] ((w.alloc (.cells #[.bool xlb, .slice xla xln xlc, .slice xlh xlm xlg, .bool xub, .slice xua xun xuc, .slice xuh xum xug] 35)).alloc (.cells #[.bool ylb, .slice yla yln ylc, .slice ylh ylm ylg, .bool yub, .slice yua yun yuc, .slice yuh yum yug] 35)) from ((Bx.new (w.alloc (.cells #[.bool xlb, .slice xla xln xlc, .slice xlh xlm xlg, .bool xub, .slice xua xun xuc, .slice xuh xum xug] 35)) 35 (.b _ (.s _ _ _ (.s _ _ _ (.b _ (.s _ _ _ (.s _ _ _ .nil))))))).at (g' := w.heap.size + 1) (by simp)).keep (Keep.refl _))
  have X1_0 := hd (hx1.below KW_0.out)
  have X2_0 := hd (hx2.below KW_0.out)
  have X3_0 := hd (hx3.below KW_0.out)
  have X4_0 := hd (hx4.below KW_0.out)
  have Y1_0 := hd (hy1.below KW_0.out)
  have Y2_0 := hd (hy2.below KW_0.out)
  have Y3_0 := hd (hy3.below KW_0.out)
  have Y4_0 := hd (hy4.below KW_0.out)
  have T_0 := hd (hT.keep KW_0.out)
  have AW := hd (fun w1 (hT1 : Tab w1) => awake6_c w1 hT1)
  have Sx := hd (fun w1 (h1 : Rd w1 xla xln xlc xl1) (h2 : Rd w1 xlh xlm xlg xl2) (h3 : Rd w1 xua xun xuc xu1) (h4 : Rd w1 xuh xum xug xu2) => small_c (w := w1) (xlb := xlb) (xub := xub) h1 h2 h3 h4)
  rw [ex] at Sx
  have Sy := hd (fun w1 (h1 : Rd w1 yla yln ylc yl1) (h2 : Rd w1 ylh ylm ylg yl2) (h3 : Rd w1 yua yun yuc yu1) (h4 : Rd w1 yuh yum yug yu2) => small_c (w := w1) (xlb := ylb) (xub := yub) h1 h2 h3 h4)
  rw [ey] at Sy
  obtain ⟨⟨jx1, jx2⟩, ⟨jx3, jx4⟩, hlex⟩ := smallB_le ex
  have hrxl := rdRa (s := xlb) hx1 hx2 jx1 jx2
  have hrxu := rdRa (s := xub) hx3 hx4 jx3 jx4
  have hqxl := gp
  have hqxu := gq
  rw [hqxl] at hrxl hlex
  rw [hqxu] at hrxu hlex
  have hix : IRa w (.agg #[.bool xlb, .slice xla xln xlc, .slice xlh xlm xlg, .bool xub, .slice xua xun xuc, .slice xuh xum xug]) p q 2 := ⟨xlb, xla, xln, xlc, xlh, xlm, xlg, xub, xua, xun, xuc, xuh, xum, xug, rfl, hrxl, hrxu⟩
  have IX_0 := hd (hix.keep KW_0.out)
  have rbp := hrxl.rb (by omega)
  have rbq := hrxu.rb (by omega)
  have XL_0 := hd (hrxl.keep KW_0.out)
  have XU_0 := hd (hrxu.keep KW_0.out)
  have HLx := Lib.hid hlex
  clear hqxl hqxu jx1 jx2 jx3 jx4
  obtain ⟨⟨jy1, jy2⟩, ⟨jy3, jy4⟩, hley⟩ := smallB_le ey
  have hryl := rdRa (s := ylb) hy1 hy2 jy1 jy2
  have hryu := rdRa (s := yub) hy3 hy4 jy3 jy4
  have hqyl := gr
  have hqyu := gs
  rw [hqyl] at hryl hley
  rw [hqyu] at hryu hley
  have hiy : IRa w (.agg #[.bool ylb, .slice yla yln ylc, .slice ylh ylm ylg, .bool yub, .slice yua yun yuc, .slice yuh yum yug]) r s 2 := ⟨ylb, yla, yln, ylc, ylh, ylm, ylg, yub, yua, yun, yuc, yuh, yum, yug, rfl, hryl, hryu⟩
  have IY_0 := hd (hiy.keep KW_0.out)
  have rbr := hryl.rb (by omega)
  have rbs := hryu.rb (by omega)
  have YL_0 := hd (hryl.keep KW_0.out)
  have YU_0 := hd (hryu.keep KW_0.out)
  have HLy := Lib.hid hley
  clear hqyl hqyu jy1 jy2 jy3 jy4
  have JN := hd (fun w1 (h : IRa w1 (.agg #[.bool xlb, .slice xla xln xlc, .slice xlh xlm xlg, .bool xub, .slice xua xun xuc, .slice xuh xum xug]) p q 2) (h' : IRa w1 (.agg #[.bool ylb, .slice yla yln ylc, .slice ylh ylm ylg, .bool yub, .slice yua yun yuc, .slice yuh yum yug]) r s 2) (hT1 : Tab w1) => ijoin h h' (by omega) (by omega) hT1)
  have ME := hd (fun w1 (h : IRa w1 (.agg #[.bool xlb, .slice xla xln xlc, .slice xlh xlm xlg, .bool xub, .slice xua xun xuc, .slice xuh xum xug]) p q 2) (h' : IRa w1 (.agg #[.bool ylb, .slice yla yln ylc, .slice ylh ylm ylg, .bool yub, .slice yua yun yuc, .slice yuh yum yug]) r s 2) (hT1 : Tab w1) => imeet_0 h h' (by omega) (by omega) hT1 hc)
  have RM := hd (fun w1 (h : IRa w1 (.agg #[.bool xlb, .slice xla xln xlc, .slice xlh xlm xlg, .bool xub, .slice xua xun xuc, .slice xuh xum xug]) p q 2) (h' : IRa w1 (.agg #[.bool ylb, .slice yla yln ylc, .slice ylh ylm ylg, .bool yub, .slice yua yun yuc, .slice yuh yum yug]) r s 2) => rimeet_0 h h' (by omega) (by omega) hc)
  have RJ := hd (fun w1 (h : IRa w1 (.agg #[.bool xlb, .slice xla xln xlc, .slice xlh xlm xlg, .bool xub, .slice xua xun xuc, .slice xuh xum xug]) p q 2) (h' : IRa w1 (.agg #[.bool ylb, .slice yla yln ylc, .slice ylh ylm ylg, .bool yub, .slice yua yun yuc, .slice yuh yum yug]) r s 2) => rijoin h h' (by omega) (by omega))
  have WI := hd (fun w1 (h : IRa w1 (.agg #[.bool xlb, .slice xla xln xlc, .slice xlh xlm xlg, .bool xub, .slice xua xun xuc, .slice xuh xum xug]) p q 2) (h' : IRa w1 (.agg #[.bool ylb, .slice yla yln ylc, .slice ylh ylm ylg, .bool yub, .slice yua yun yuc, .slice yuh yum yug]) r s 2) => iwithin_c h h' (by omega) (by omega))
  have RW := hd (fun w1 (h : IRa w1 (.agg #[.bool xlb, .slice xla xln xlc, .slice xlh xlm xlg, .bool xub, .slice xua xun xuc, .slice xuh xum xug]) p q 2) (h' : IRa w1 (.agg #[.bool ylb, .slice yla yln ylc, .slice ylh ylm ylg, .bool yub, .slice yua yun yuc, .slice yuh yum yug]) r s 2) => riwithin_c h h' (by omega) (by omega))
  obtain ⟨c1, hc1⟩ : ∃ c, decide (r ≤ p ∧ q ≤ s) = c := ⟨_, rfl⟩
  rw [hc1] at WI RW
  have bl := rbp.rmin rbr
  have bu := rbq.rmax rbs
  have W1 := hd (fun w1 u (h : IRa w1 (.agg #[.bool xlb, .slice xla xln xlc, .slice xlh xlm xlg, .bool xub, .slice xua xun xuc, .slice xuh xum xug]) p q 2) (h' : ICr w1 u (rmin p r) (rmax q s)) => iwithin_c h (h'.ra bl bu) (by omega) (by omega))
  rw [decide_eq_true ⟨(rmin_le p r).1, (le_rmax q s).1⟩] at W1
  have W2 := hd (fun w1 u (h : IRa w1 (.agg #[.bool ylb, .slice yla yln ylc, .slice ylh ylm ylg, .bool yub, .slice yua yun yuc, .slice yuh yum yug]) r s 2) (h' : ICr w1 u (rmin p r) (rmax q s)) => iwithin_c h (h'.ra bl bu) (by omega) (by omega))
  rw [decide_eq_true ⟨(rmin_le p r).2, (le_rmax q s).2⟩] at W2
  have AT := hd (fun w1 u (h : ICr w1 u (rmin p r) (rmax q s)) => at_c part (h.ra bl bu) (by omega) (by omega) hp0 hp1)
  have bX := (bl.add ((rb255 hp0 hp1).mul (bu.sub bl) (by omega))).up (j := 10) (by omega)
  obtain ⟨X, gX⟩ : ∃ z, rmin p r + (part : Rat) / ((255 : Int) : Rat) * (rmax q s - rmin p r) = z := ⟨_, rfl⟩
  rw [gX] at AT bX
  have CA := hd (fun w1 v (h : IRa w1 (.agg #[.bool xlb, .slice xla xln xlc, .slice xlh xlm xlg, .bool xub, .slice xua xun xuc, .slice xuh xum xug]) p q 2) (h' : Cr w1 v X) => icontains_c (h.up (j := 10) (by omega)) (h'.ra bX) (by omega) (by omega))
  have CB := hd (fun w1 v (h : IRa w1 (.agg #[.bool ylb, .slice yla yln ylc, .slice ylh ylm ylg, .bool yub, .slice yua yun yuc, .slice yuh yum yug]) r s 2) (h' : Cr w1 v X) => icontains_c (h.up (j := 10) (by omega)) (h'.ra bX) (by omega) (by omega))
  have bm1 := rbp.rmax rbr
  have bm2 := rbq.rmin rbs
  have CM := hd (fun w1 u v (h : ICr w1 u (rmax p r) (rmin q s)) (h' : Cr w1 v X) => icontains_c (h.ra (bm1.up (j := 10) (by omega)) (bm2.up (j := 10) (by omega))) (h'.ra bX) (by omega) (by omega))
  rw [meet_and p q r s X] at CM
  obtain ⟨ca, ha⟩ : ∃ c, decide (p ≤ X ∧ X ≤ q) = c := ⟨_, rfl⟩
  obtain ⟨cb, hb⟩ : ∃ c, decide (r ≤ X ∧ X ≤ s) = c := ⟨_, rfl⟩
  rw [ha] at CA CM
  rw [hb] at CB CM
  obtain ⟨J1, hJ1⟩ : ∃ z, rmin p r = z := ⟨_, rfl⟩
  obtain ⟨J2, hJ2⟩ : ∃ z, rmax q s = z := ⟨_, rfl⟩
  rw [hJ1, hJ2] at JN RJ W1 W2 AT
  clear hJ1 hJ2
  clear hT ex ey gp gq gr gs hc gX ha hb hc1 bl bu bX rbp rbq rbr rbs hix hiy hrxl hrxu hryl hryu hlex hley HLx HLy bm1 bm2 hx1 hx2 hx3 hx4 hy1 hy2 hy3 hy4
  go_enter Tryd.func7, Tryd.ntmps7
  obtain ⟨BX_c0, BX_c1, BX_c2, BX_c3, BX_c4, BX_c5, -, -, -, -, -, -⟩ := BX_0.out.c6
  obtain ⟨BY_c0, BY_c1, BY_c2, BY_c3, BY_c4, BY_c5, -, -, -, -, -, -⟩ := BY_0.out.c6
  go_wp2_with fail
  refine Calls.mono (AW.out _ T_0.out) ?_
  rintro e w1 ⟨rfl, k1⟩
  clear BX_c0 BX_c1 BX_c2 BX_c3 BX_c4 BX_c5 BY_c0 BY_c1 BY_c2 BY_c3 BY_c4 BY_c5
  have BX_1 := hd (BX_0.out.keep k1)
  have BY_1 := hd (BY_0.out.keep k1)
  have X1_1 := hd (X1_0.out.keep k1)
  have X2_1 := hd (X2_0.out.keep k1)
  have X3_1 := hd (X3_0.out.keep k1)
  have X4_1 := hd (X4_0.out.keep k1)
  have Y1_1 := hd (Y1_0.out.keep k1)
  have Y2_1 := hd (Y2_0.out.keep k1)
  have Y3_1 := hd (Y3_0.out.keep k1)
  have Y4_1 := hd (Y4_0.out.keep k1)
  have T_1 := hd (T_0.out.keep k1)
  have IX_1 := hd (IX_0.out.keep k1)
  have XL_1 := hd (XL_0.out.keep k1)
  have XU_1 := hd (XU_0.out.keep k1)
  have IY_1 := hd (IY_0.out.keep k1)
  have YL_1 := hd (YL_0.out.keep k1)
  have YU_1 := hd (YU_0.out.keep k1)
  have KW_1 := hd (KW_0.out.trans k1)
  clear k1 BX_0 BY_0 X1_0 X2_0 X3_0 X4_0 Y1_0 Y2_0 Y3_0 Y4_0 T_0 IX_0 XL_0 XU_0 IY_0 YL_0 YU_0 KW_0
  obtain ⟨BX_c0, BX_c1, BX_c2, BX_c3, BX_c4, BX_c5, -, -, -, -, -, -⟩ := BX_1.out.c6
  obtain ⟨BY_c0, BY_c1, BY_c2, BY_c3, BY_c4, BY_c5, -, -, -, -, -, -⟩ := BY_1.out.c6
  go_wp2_with fail
  refine Calls.mono (Sx.out _ X1_1.out X2_1.out X3_1.out X4_1.out) ?_
  rintro e w2 ⟨rfl, k2⟩
  clear BX_c0 BX_c1 BX_c2 BX_c3 BX_c4 BX_c5 BY_c0 BY_c1 BY_c2 BY_c3 BY_c4 BY_c5
  have BX_2 := hd (BX_1.out.keep k2)
  have BY_2 := hd (BY_1.out.keep k2)
  have X1_2 := hd (X1_1.out.keep k2)
  have X2_2 := hd (X2_1.out.keep k2)
  have X3_2 := hd (X3_1.out.keep k2)
  have X4_2 := hd (X4_1.out.keep k2)
  have Y1_2 := hd (Y1_1.out.keep k2)
  have Y2_2 := hd (Y2_1.out.keep k2)
  have Y3_2 := hd (Y3_1.out.keep k2)
  have Y4_2 := hd (Y4_1.out.keep k2)
  have T_2 := hd (T_1.out.keep k2)
  have IX_2 := hd (IX_1.out.keep k2)
  have XL_2 := hd (XL_1.out.keep k2)
  have XU_2 := hd (XU_1.out.keep k2)
  have IY_2 := hd (IY_1.out.keep k2)
  have YL_2 := hd (YL_1.out.keep k2)
  have YU_2 := hd (YU_1.out.keep k2)
  have KW_2 := hd (KW_1.out.trans k2)
  clear k2 BX_1 BY_1 X1_1 X2_1 X3_1 X4_1 Y1_1 Y2_1 Y3_1 Y4_1 T_1 IX_1 XL_1 XU_1 IY_1 YL_1 YU_1 KW_1
  obtain ⟨BX_c0, BX_c1, BX_c2, BX_c3, BX_c4, BX_c5, -, -, -, -, -, -⟩ := BX_2.out.c6
  obtain ⟨BY_c0, BY_c1, BY_c2, BY_c3, BY_c4, BY_c5, -, -, -, -, -, -⟩ := BY_2.out.c6
  go_wp2_with fail
  refine Calls.mono (Sy.out _ Y1_2.out Y2_2.out Y3_2.out Y4_2.out) ?_
  rintro e w3 ⟨rfl, k3⟩
  clear BX_c0 BX_c1 BX_c2 BX_c3 BX_c4 BX_c5 BY_c0 BY_c1 BY_c2 BY_c3 BY_c4 BY_c5
  have BX_3 := hd (BX_2.out.keep k3)
  have BY_3 := hd (BY_2.out.keep k3)
  have X1_3 := hd (X1_2.out.keep k3)
  have X2_3 := hd (X2_2.out.keep k3)
  have X3_3 := hd (X3_2.out.keep k3)
  have X4_3 := hd (X4_2.out.keep k3)
  have Y1_3 := hd (Y1_2.out.keep k3)
  have Y2_3 := hd (Y2_2.out.keep k3)
  have Y3_3 := hd (Y3_2.out.keep k3)
  have Y4_3 := hd (Y4_2.out.keep k3)
  have T_3 := hd (T_2.out.keep k3)
  have IX_3 := hd (IX_2.out.keep k3)
  have XL_3 := hd (XL_2.out.keep k3)
  have XU_3 := hd (XU_2.out.keep k3)
  have IY_3 := hd (IY_2.out.keep k3)
  have YL_3 := hd (YL_2.out.keep k3)
  have YU_3 := hd (YU_2.out.keep k3)
  have KW_3 := hd (KW_2.out.trans k3)
  clear k3 BX_2 BY_2 X1_2 X2_2 X3_2 X4_2 Y1_2 Y2_2 Y3_2 Y4_2 T_2 IX_2 XL_2 XU_2 IY_2 YL_2 YU_2 KW_2
  clear AW Sx Sy
  clear X1_3 X2_3 X3_3 X4_3 Y1_3 Y2_3 Y3_3 Y4_3 XL_3 XU_3 YL_3 YU_3
  obtain ⟨BX_c0, BX_c1, BX_c2, BX_c3, BX_c4, BX_c5, -, -, -, -, -, -⟩ := BX_3.out.c6
  obtain ⟨BY_c0, BY_c1, BY_c2, BY_c3, BY_c4, BY_c5, -, -, -, -, -, -⟩ := BY_3.out.c6
  go_wp2_with fail
  refine Calls.mono (JN.out _ IX_3.out IY_3.out T_3.out) ?_
  rintro e w4 ⟨uj, rfl, hJ, k4⟩
  clear BX_c0 BX_c1 BX_c2 BX_c3 BX_c4 BX_c5 BY_c0 BY_c1 BY_c2 BY_c3 BY_c4 BY_c5
  have BX_4 := hd (BX_3.out.keep k4)
  have BY_4 := hd (BY_3.out.keep k4)
  have T_4 := hd (T_3.out.keep k4)
  have IX_4 := hd (IX_3.out.keep k4)
  have IY_4 := hd (IY_3.out.keep k4)
  have J0_4 := Lib.hid hJ
  have KW_4 := hd (KW_3.out.trans k4)
  clear k4 BX_3 BY_3 T_3 IX_3 IY_3 hJ KW_3
  obtain ⟨jlb, jla, jln, jlc, jlh, jlm, jlg, jub, jua, jun, juc, juh, jum, jug, rfl, hJ2⟩ := ICr.fv J0_4.out
  have J_4 := Lib.hid hJ2
  clear hJ2 J0_4
  have BX_5 := hd (BX_4.out.keep (Keep.alloc (Keep.refl _) (.cells #[.bool jlb, .slice jla jln jlc, .slice jlh jlm jlg, .bool jub, .slice jua jun juc, .slice juh jum jug] 35)))
  have BY_5 := hd (BY_4.out.keep (Keep.alloc (Keep.refl _) (.cells #[.bool jlb, .slice jla jln jlc, .slice jlh jlm jlg, .bool jub, .slice jua jun juc, .slice juh jum jug] 35)))
  have T_5 := hd (T_4.out.keep (Keep.alloc (Keep.refl _) (.cells #[.bool jlb, .slice jla jln jlc, .slice jlh jlm jlg, .bool jub, .slice jua jun juc, .slice juh jum jug] 35)))
  have IX_5 := hd (IX_4.out.keep (Keep.alloc (Keep.refl _) (.cells #[.bool jlb, .slice jla jln jlc, .slice jlh jlm jlg, .bool jub, .slice jua jun juc, .slice juh jum jug] 35)))
  have IY_5 := hd (IY_4.out.keep (Keep.alloc (Keep.refl _) (.cells #[.bool jlb, .slice jla jln jlc, .slice jlh jlm jlg, .bool jub, .slice jua jun juc, .slice juh jum jug] 35)))
  have J_5 := hd (J_4.out.keep (Keep.alloc (Keep.refl _) (.cells #[.bool jlb, .slice jla jln jlc, .slice jlh jlm jlg, .bool jub, .slice jua jun juc, .slice juh jum jug] 35)))
  have KW_5 := hd (KW_4.out.trans (Keep.alloc (Keep.refl _) (.cells #[.bool jlb, .slice jla jln jlc, .slice jlh jlm jlg, .bool jub, .slice jua jun juc, .slice juh jum jug] 35)))
  have BJ_5 := hd (show Bx w4.heap.size [.bool jlb, .slice jla jln jlc, .slice jlh jlm jlg, .bool jub, .slice jua jun juc, .slice juh jum jug] (w4.alloc (.cells #[.bool jlb, .slice jla jln jlc, .slice jlh jlm jlg, .bool jub, .slice jua jun juc, .slice juh jum jug] 35)) from Bx.new w4 35 (.b _ (.s _ _ _ (.s _ _ _ (.b _ (.s _ _ _ (.s _ _ _ .nil)))))))
  clear BX_4 BY_4 T_4 IX_4 IY_4 J_4 KW_4
  obtain ⟨BX_c0, BX_c1, BX_c2, BX_c3, BX_c4, BX_c5, -, -, -, -, -, -⟩ := BX_5.out.c6
  obtain ⟨BY_c0, BY_c1, BY_c2, BY_c3, BY_c4, BY_c5, -, -, -, -, -, -⟩ := BY_5.out.c6
  obtain ⟨BJ_c0, BJ_c1, BJ_c2, BJ_c3, BJ_c4, BJ_c5, -, -, -, -, -, -⟩ := BJ_5.out.c6
  go_wp2_with fail
  refine Calls.mono (ME.out _ IX_5.out IY_5.out T_5.out) ?_
  rintro e w6 ⟨um, rfl, hM, k6⟩
  clear BX_c0 BX_c1 BX_c2 BX_c3 BX_c4 BX_c5 BY_c0 BY_c1 BY_c2 BY_c3 BY_c4 BY_c5 BJ_c0 BJ_c1 BJ_c2 BJ_c3 BJ_c4 BJ_c5
  have BX_6 := hd (BX_5.out.keep k6)
  have BY_6 := hd (BY_5.out.keep k6)
  have T_6 := hd (T_5.out.keep k6)
  have IX_6 := hd (IX_5.out.keep k6)
  have IY_6 := hd (IY_5.out.keep k6)
  have J_6 := hd (J_5.out.keep k6)
  have BJ_6 := hd (BJ_5.out.keep k6)
  have M0_6 := Lib.hid hM
  have KW_6 := hd (KW_5.out.trans k6)
  clear k6 BX_5 BY_5 T_5 IX_5 IY_5 J_5 BJ_5 hM KW_5
  obtain ⟨mlb, mla, mln, mlc, mlh, mlm, mlg, mub, mua, mun, muc, muh, mum, mug, rfl, hM2⟩ := ICr.fv M0_6.out
  have M_6 := Lib.hid hM2
  clear hM2 M0_6
  have BX_7 := hd (BX_6.out.keep (Keep.alloc (Keep.refl _) (.cells #[.bool mlb, .slice mla mln mlc, .slice mlh mlm mlg, .bool mub, .slice mua mun muc, .slice muh mum mug] 35)))
  have BY_7 := hd (BY_6.out.keep (Keep.alloc (Keep.refl _) (.cells #[.bool mlb, .slice mla mln mlc, .slice mlh mlm mlg, .bool mub, .slice mua mun muc, .slice muh mum mug] 35)))
  have T_7 := hd (T_6.out.keep (Keep.alloc (Keep.refl _) (.cells #[.bool mlb, .slice mla mln mlc, .slice mlh mlm mlg, .bool mub, .slice mua mun muc, .slice muh mum mug] 35)))
  have IX_7 := hd (IX_6.out.keep (Keep.alloc (Keep.refl _) (.cells #[.bool mlb, .slice mla mln mlc, .slice mlh mlm mlg, .bool mub, .slice mua mun muc, .slice muh mum mug] 35)))
  have IY_7 := hd (IY_6.out.keep (Keep.alloc (Keep.refl _) (.cells #[.bool mlb, .slice mla mln mlc, .slice mlh mlm mlg, .bool mub, .slice mua mun muc, .slice muh mum mug] 35)))
  have J_7 := hd (J_6.out.keep (Keep.alloc (Keep.refl _) (.cells #[.bool mlb, .slice mla mln mlc, .slice mlh mlm mlg, .bool mub, .slice mua mun muc, .slice muh mum mug] 35)))
  have BJ_7 := hd (BJ_6.out.keep (Keep.alloc (Keep.refl _) (.cells #[.bool mlb, .slice mla mln mlc, .slice mlh mlm mlg, .bool mub, .slice mua mun muc, .slice muh mum mug] 35)))
  have M_7 := hd (M_6.out.keep (Keep.alloc (Keep.refl _) (.cells #[.bool mlb, .slice mla mln mlc, .slice mlh mlm mlg, .bool mub, .slice mua mun muc, .slice muh mum mug] 35)))
  have KW_7 := hd (KW_6.out.trans (Keep.alloc (Keep.refl _) (.cells #[.bool mlb, .slice mla mln mlc, .slice mlh mlm mlg, .bool mub, .slice mua mun muc, .slice muh mum mug] 35)))
  have BM_7 := hd (show Bx w6.heap.size [.bool mlb, .slice mla mln mlc, .slice mlh mlm mlg, .bool mub, .slice mua mun muc, .slice muh mum mug] (w6.alloc (.cells #[.bool mlb, .slice mla mln mlc, .slice mlh mlm mlg, .bool mub, .slice mua mun muc, .slice muh mum mug] 35)) from Bx.new w6 35 (.b _ (.s _ _ _ (.s _ _ _ (.b _ (.s _ _ _ (.s _ _ _ .nil)))))))
  clear BX_6 BY_6 T_6 IX_6 IY_6 J_6 BJ_6 M_6 KW_6
  obtain ⟨BX_c0, BX_c1, BX_c2, BX_c3, BX_c4, BX_c5, -, -, -, -, -, -⟩ := BX_7.out.c6
  obtain ⟨BY_c0, BY_c1, BY_c2, BY_c3, BY_c4, BY_c5, -, -, -, -, -, -⟩ := BY_7.out.c6
  obtain ⟨BJ_c0, BJ_c1, BJ_c2, BJ_c3, BJ_c4, BJ_c5, -, -, -, -, -, -⟩ := BJ_7.out.c6
  obtain ⟨BM_c0, BM_c1, BM_c2, BM_c3, BM_c4, BM_c5, -, -, -, -, -, -⟩ := BM_7.out.c6
  go_wp2_with fail
  refine Calls.mono (RM.out _ IX_7.out IY_7.out) ?_
  rintro e w8 ⟨un, rfl, hN, k8⟩
  clear BX_c0 BX_c1 BX_c2 BX_c3 BX_c4 BX_c5 BY_c0 BY_c1 BY_c2 BY_c3 BY_c4 BY_c5 BJ_c0 BJ_c1 BJ_c2 BJ_c3 BJ_c4 BJ_c5 BM_c0 BM_c1 BM_c2 BM_c3 BM_c4 BM_c5
  have BX_8 := hd (BX_7.out.keep k8)
  have BY_8 := hd (BY_7.out.keep k8)
  have T_8 := hd (T_7.out.keep k8)
  have IX_8 := hd (IX_7.out.keep k8)
  have IY_8 := hd (IY_7.out.keep k8)
  have J_8 := hd (J_7.out.keep k8)
  have BJ_8 := hd (BJ_7.out.keep k8)
  have M_8 := hd (M_7.out.keep k8)
  have BM_8 := hd (BM_7.out.keep k8)
  have N0_8 := Lib.hid hN
  have KW_8 := hd (KW_7.out.trans k8)
  clear k8 BX_7 BY_7 T_7 IX_7 IY_7 J_7 BJ_7 M_7 BM_7 hN KW_7
  obtain ⟨nlb, nla, nln, nlc, nlh, nlm, nlg, nub, nua, nun, nuc, nuh, num, nug, rfl, hN2⟩ := ICr.fv N0_8.out
  have N_8 := Lib.hid hN2
  clear hN2 N0_8
  have BX_9 := hd (BX_8.out.keep (Keep.alloc (Keep.refl _) (.cells #[.bool nlb, .slice nla nln nlc, .slice nlh nlm nlg, .bool nub, .slice nua nun nuc, .slice nuh num nug] 35)))
  have BY_9 := hd (BY_8.out.keep (Keep.alloc (Keep.refl _) (.cells #[.bool nlb, .slice nla nln nlc, .slice nlh nlm nlg, .bool nub, .slice nua nun nuc, .slice nuh num nug] 35)))
  have T_9 := hd (T_8.out.keep (Keep.alloc (Keep.refl _) (.cells #[.bool nlb, .slice nla nln nlc, .slice nlh nlm nlg, .bool nub, .slice nua nun nuc, .slice nuh num nug] 35)))
  have IX_9 := hd (IX_8.out.keep (Keep.alloc (Keep.refl _) (.cells #[.bool nlb, .slice nla nln nlc, .slice nlh nlm nlg, .bool nub, .slice nua nun nuc, .slice nuh num nug] 35)))
  have IY_9 := hd (IY_8.out.keep (Keep.alloc (Keep.refl _) (.cells #[.bool nlb, .slice nla nln nlc, .slice nlh nlm nlg, .bool nub, .slice nua nun nuc, .slice nuh num nug] 35)))
  have J_9 := hd (J_8.out.keep (Keep.alloc (Keep.refl _) (.cells #[.bool nlb, .slice nla nln nlc, .slice nlh nlm nlg, .bool nub, .slice nua nun nuc, .slice nuh num nug] 35)))
  have BJ_9 := hd (BJ_8.out.keep (Keep.alloc (Keep.refl _) (.cells #[.bool nlb, .slice nla nln nlc, .slice nlh nlm nlg, .bool nub, .slice nua nun nuc, .slice nuh num nug] 35)))
  have M_9 := hd (M_8.out.keep (Keep.alloc (Keep.refl _) (.cells #[.bool nlb, .slice nla nln nlc, .slice nlh nlm nlg, .bool nub, .slice nua nun nuc, .slice nuh num nug] 35)))
  have BM_9 := hd (BM_8.out.keep (Keep.alloc (Keep.refl _) (.cells #[.bool nlb, .slice nla nln nlc, .slice nlh nlm nlg, .bool nub, .slice nua nun nuc, .slice nuh num nug] 35)))
  have N_9 := hd (N_8.out.keep (Keep.alloc (Keep.refl _) (.cells #[.bool nlb, .slice nla nln nlc, .slice nlh nlm nlg, .bool nub, .slice nua nun nuc, .slice nuh num nug] 35)))
  have KW_9 := hd (KW_8.out.trans (Keep.alloc (Keep.refl _) (.cells #[.bool nlb, .slice nla nln nlc, .slice nlh nlm nlg, .bool nub, .slice nua nun nuc, .slice nuh num nug] 35)))
  have BN_9 := hd (show Bx w8.heap.size [.bool nlb, .slice nla nln nlc, .slice nlh nlm nlg, .bool nub, .slice nua nun nuc, .slice nuh num nug] (w8.alloc (.cells #[.bool nlb, .slice nla nln nlc, .slice nlh nlm nlg, .bool nub, .slice nua nun nuc, .slice nuh num nug] 35)) from Bx.new w8 35 (.b _ (.s _ _ _ (.s _ _ _ (.b _ (.s _ _ _ (.s _ _ _ .nil)))))))
  clear BX_8 BY_8 T_8 IX_8 IY_8 J_8 BJ_8 M_8 BM_8 N_8 KW_8
  clear JN ME RM
  clear T_9
  have BX_10 := hd (BX_9.out.keep (keep_drew _))
  clear BX_9
  have BY_10 := hd (BY_9.out.keep (keep_drew _))
  clear BY_9
  have IX_10 := hd (IX_9.out.keep (keep_drew _))
  clear IX_9
  have IY_10 := hd (IY_9.out.keep (keep_drew _))
  clear IY_9
  have J_10 := hd (J_9.out.keep (keep_drew _))
  clear J_9
  have BJ_10 := hd (BJ_9.out.keep (keep_drew _))
  clear BJ_9
  have M_10 := hd (M_9.out.keep (keep_drew _))
  clear M_9
  have BM_10 := hd (BM_9.out.keep (keep_drew _))
  clear BM_9
  have N_10 := hd (N_9.out.keep (keep_drew _))
  clear N_9
  have BN_10 := hd (BN_9.out.keep (keep_drew _))
  clear BN_9
  have KW_10 := hd (KW_9.out.trans (keep_drew _))
  clear KW_9
  obtain ⟨a10c0, a10c1, a10c2, a10c3, a10c4, a10c5⟩ := BJ_10.out.d6
  obtain ⟨b10c0, b10c1, b10c2, b10c3, b10c4, b10c5⟩ := BX_10.out.d6
  obtain ⟨c10c0, c10c1, c10c2, c10c3, c10c4, c10c5⟩ := BY_10.out.d6
  obtain ⟨d10c0, d10c1, d10c2, d10c3, d10c4, d10c5⟩ := BM_10.out.d6
  obtain ⟨e10c0, e10c1, e10c2, e10c3, e10c4, e10c5⟩ := BN_10.out.d6
  go_wp2
  go_region_held3 (fun w' => w'.cell? ⟨w4.heap.size, 0, none⟩ = some (.bool jlb) ∧ w'.cell? ⟨w4.heap.size, 1, none⟩ = some (.slice jla jln jlc) ∧ w'.cell? ⟨w4.heap.size, 2, none⟩ = some (.slice jlh jlm jlg) ∧ w'.cell? ⟨w4.heap.size, 3, none⟩ = some (.bool jub) ∧ w'.cell? ⟨w4.heap.size, 4, none⟩ = some (.slice jua jun juc) ∧ w'.cell? ⟨w4.heap.size, 5, none⟩ = some (.slice juh jum jug) ∧ w'.cell? ⟨w.heap.size, 0, none⟩ = some (.bool xlb) ∧ w'.cell? ⟨w.heap.size, 1, none⟩ = some (.slice xla xln xlc) ∧ w'.cell? ⟨w.heap.size, 2, none⟩ = some (.slice xlh xlm xlg) ∧ w'.cell? ⟨w.heap.size, 3, none⟩ = some (.bool xub) ∧ w'.cell? ⟨w.heap.size, 4, none⟩ = some (.slice xua xun xuc) ∧ w'.cell? ⟨w.heap.size, 5, none⟩ = some (.slice xuh xum xug) ∧ w'.cell? ⟨w.heap.size + 1, 0, none⟩ = some (.bool ylb) ∧ w'.cell? ⟨w.heap.size + 1, 1, none⟩ = some (.slice yla yln ylc) ∧ w'.cell? ⟨w.heap.size + 1, 2, none⟩ = some (.slice ylh ylm ylg) ∧ w'.cell? ⟨w.heap.size + 1, 3, none⟩ = some (.bool yub) ∧ w'.cell? ⟨w.heap.size + 1, 4, none⟩ = some (.slice yua yun yuc) ∧ w'.cell? ⟨w.heap.size + 1, 5, none⟩ = some (.slice yuh yum yug) ∧ w'.cell? ⟨w6.heap.size, 0, none⟩ = some (.bool mlb) ∧ w'.cell? ⟨w6.heap.size, 1, none⟩ = some (.slice mla mln mlc) ∧ w'.cell? ⟨w6.heap.size, 2, none⟩ = some (.slice mlh mlm mlg) ∧ w'.cell? ⟨w6.heap.size, 3, none⟩ = some (.bool mub) ∧ w'.cell? ⟨w6.heap.size, 4, none⟩ = some (.slice mua mun muc) ∧ w'.cell? ⟨w6.heap.size, 5, none⟩ = some (.slice muh mum mug) ∧ w'.cell? ⟨w8.heap.size, 0, none⟩ = some (.bool nlb) ∧ w'.cell? ⟨w8.heap.size, 1, none⟩ = some (.slice nla nln nlc) ∧ w'.cell? ⟨w8.heap.size, 2, none⟩ = some (.slice nlh nlm nlg) ∧ w'.cell? ⟨w8.heap.size, 3, none⟩ = some (.bool nub) ∧ w'.cell? ⟨w8.heap.size, 4, none⟩ = some (.slice nua nun nuc) ∧ w'.cell? ⟨w8.heap.size, 5, none⟩ = some (.slice nuh num nug)) (first | with_reducible exact ⟨a17c0, a17c1, a17c2, a17c3, a17c4, a17c5, b17c0, b17c1, b17c2, b17c3, b17c4, b17c5, c17c0, c17c1, c17c2, c17c3, c17c4, c17c5, d17c0, d17c1, d17c2, d17c3, d17c4, d17c5, e17c0, e17c1, e17c2, e17c3, e17c4, e17c5⟩ | with_reducible exact ⟨a16c0, a16c1, a16c2, a16c3, a16c4, a16c5, b16c0, b16c1, b16c2, b16c3, b16c4, b16c5, c16c0, c16c1, c16c2, c16c3, c16c4, c16c5, d16c0, d16c1, d16c2, d16c3, d16c4, d16c5, e16c0, e16c1, e16c2, e16c3, e16c4, e16c5⟩ | with_reducible exact ⟨a15c0, a15c1, a15c2, a15c3, a15c4, a15c5, b15c0, b15c1, b15c2, b15c3, b15c4, b15c5, c15c0, c15c1, c15c2, c15c3, c15c4, c15c5, d15c0, d15c1, d15c2, d15c3, d15c4, d15c5, e15c0, e15c1, e15c2, e15c3, e15c4, e15c5⟩ | with_reducible exact ⟨a14c0, a14c1, a14c2, a14c3, a14c4, a14c5, b14c0, b14c1, b14c2, b14c3, b14c4, b14c5, c14c0, c14c1, c14c2, c14c3, c14c4, c14c5, d14c0, d14c1, d14c2, d14c3, d14c4, d14c5, e14c0, e14c1, e14c2, e14c3, e14c4, e14c5⟩ | with_reducible exact ⟨a13c0, a13c1, a13c2, a13c3, a13c4, a13c5, b13c0, b13c1, b13c2, b13c3, b13c4, b13c5, c13c0, c13c1, c13c2, c13c3, c13c4, c13c5, d13c0, d13c1, d13c2, d13c3, d13c4, d13c5, e13c0, e13c1, e13c2, e13c3, e13c4, e13c5⟩ | with_reducible exact ⟨a12c0, a12c1, a12c2, a12c3, a12c4, a12c5, b12c0, b12c1, b12c2, b12c3, b12c4, b12c5, c12c0, c12c1, c12c2, c12c3, c12c4, c12c5, d12c0, d12c1, d12c2, d12c3, d12c4, d12c5, e12c0, e12c1, e12c2, e12c3, e12c4, e12c5⟩ | with_reducible exact ⟨a11c0, a11c1, a11c2, a11c3, a11c4, a11c5, b11c0, b11c1, b11c2, b11c3, b11c4, b11c5, c11c0, c11c1, c11c2, c11c3, c11c4, c11c5, d11c0, d11c1, d11c2, d11c3, d11c4, d11c5, e11c0, e11c1, e11c2, e11c3, e11c4, e11c5⟩ | with_reducible exact ⟨a10c0, a10c1, a10c2, a10c3, a10c4, a10c5, b10c0, b10c1, b10c2, b10c3, b10c4, b10c5, c10c0, c10c1, c10c2, c10c3, c10c4, c10c5, d10c0, d10c1, d10c2, d10c3, d10c4, d10c5, e10c0, e10c1, e10c2, e10c3, e10c4, e10c5⟩ | go_keep)
    (first
      | (go_at_call 38; ((with_reducible refine Calls.mono (W2.out _ _ IY_16.out J_16.out) ?_); rintro e w17 ⟨rfl, k17⟩; have BX_17 := hd (BX_16.out.keep k17); have BY_17 := hd (BY_16.out.keep k17); have IX_17 := hd (IX_16.out.keep k17); have IY_17 := hd (IY_16.out.keep k17); have J_17 := hd (J_16.out.keep k17); have BJ_17 := hd (BJ_16.out.keep k17); have M_17 := hd (M_16.out.keep k17); have BM_17 := hd (BM_16.out.keep k17); have N_17 := hd (N_16.out.keep k17); have BN_17 := hd (BN_16.out.keep k17); have U_17 := hd (U_16.out.keep k17); have KW_17 := hd (KW_16.out.trans k17); obtain ⟨a17c0, a17c1, a17c2, a17c3, a17c4, a17c5⟩ := BJ_17.out.d6; obtain ⟨b17c0, b17c1, b17c2, b17c3, b17c4, b17c5⟩ := BX_17.out.d6; obtain ⟨c17c0, c17c1, c17c2, c17c3, c17c4, c17c5⟩ := BY_17.out.d6; obtain ⟨d17c0, d17c1, d17c2, d17c3, d17c4, d17c5⟩ := BM_17.out.d6; obtain ⟨e17c0, e17c1, e17c2, e17c3, e17c4, e17c5⟩ := BN_17.out.d6; clear k17))
      | (go_at_call 38; ((with_reducible refine Calls.mono (W1.out _ _ IX_15.out J_15.out) ?_); rintro e w16 ⟨rfl, k16⟩; have BX_16 := hd (BX_15.out.keep k16); have BY_16 := hd (BY_15.out.keep k16); have IX_16 := hd (IX_15.out.keep k16); have IY_16 := hd (IY_15.out.keep k16); have J_16 := hd (J_15.out.keep k16); have BJ_16 := hd (BJ_15.out.keep k16); have M_16 := hd (M_15.out.keep k16); have BM_16 := hd (BM_15.out.keep k16); have N_16 := hd (N_15.out.keep k16); have BN_16 := hd (BN_15.out.keep k16); have U_16 := hd (U_15.out.keep k16); have KW_16 := hd (KW_15.out.trans k16); obtain ⟨a16c0, a16c1, a16c2, a16c3, a16c4, a16c5⟩ := BJ_16.out.d6; obtain ⟨b16c0, b16c1, b16c2, b16c3, b16c4, b16c5⟩ := BX_16.out.d6; obtain ⟨c16c0, c16c1, c16c2, c16c3, c16c4, c16c5⟩ := BY_16.out.d6; obtain ⟨d16c0, d16c1, d16c2, d16c3, d16c4, d16c5⟩ := BM_16.out.d6; obtain ⟨e16c0, e16c1, e16c2, e16c3, e16c4, e16c5⟩ := BN_16.out.d6; clear k16))
      | (go_at_call 39; ((with_reducible refine Calls.mono (RW.out _ IX_14.out IY_14.out) ?_); rintro e w15 ⟨rfl, k15⟩; have BX_15 := hd (BX_14.out.keep k15); have BY_15 := hd (BY_14.out.keep k15); have IX_15 := hd (IX_14.out.keep k15); have IY_15 := hd (IY_14.out.keep k15); have J_15 := hd (J_14.out.keep k15); have BJ_15 := hd (BJ_14.out.keep k15); have M_15 := hd (M_14.out.keep k15); have BM_15 := hd (BM_14.out.keep k15); have N_15 := hd (N_14.out.keep k15); have BN_15 := hd (BN_14.out.keep k15); have U_15 := hd (U_14.out.keep k15); have KW_15 := hd (KW_14.out.trans k15); obtain ⟨a15c0, a15c1, a15c2, a15c3, a15c4, a15c5⟩ := BJ_15.out.d6; obtain ⟨b15c0, b15c1, b15c2, b15c3, b15c4, b15c5⟩ := BX_15.out.d6; obtain ⟨c15c0, c15c1, c15c2, c15c3, c15c4, c15c5⟩ := BY_15.out.d6; obtain ⟨d15c0, d15c1, d15c2, d15c3, d15c4, d15c5⟩ := BM_15.out.d6; obtain ⟨e15c0, e15c1, e15c2, e15c3, e15c4, e15c5⟩ := BN_15.out.d6; clear k15))
      | (go_at_call 38; ((with_reducible refine Calls.mono (WI.out _ IX_13.out IY_13.out) ?_); rintro e w14 ⟨rfl, k14⟩; have BX_14 := hd (BX_13.out.keep k14); have BY_14 := hd (BY_13.out.keep k14); have IX_14 := hd (IX_13.out.keep k14); have IY_14 := hd (IY_13.out.keep k14); have J_14 := hd (J_13.out.keep k14); have BJ_14 := hd (BJ_13.out.keep k14); have M_14 := hd (M_13.out.keep k14); have BM_14 := hd (BM_13.out.keep k14); have N_14 := hd (N_13.out.keep k14); have BN_14 := hd (BN_13.out.keep k14); have U_14 := hd (U_13.out.keep k14); have KW_14 := hd (KW_13.out.trans k14); obtain ⟨a14c0, a14c1, a14c2, a14c3, a14c4, a14c5⟩ := BJ_14.out.d6; obtain ⟨b14c0, b14c1, b14c2, b14c3, b14c4, b14c5⟩ := BX_14.out.d6; obtain ⟨c14c0, c14c1, c14c2, c14c3, c14c4, c14c5⟩ := BY_14.out.d6; obtain ⟨d14c0, d14c1, d14c2, d14c3, d14c4, d14c5⟩ := BM_14.out.d6; obtain ⟨e14c0, e14c1, e14c2, e14c3, e14c4, e14c5⟩ := BN_14.out.d6; clear k14))
      | (go_at_call 20; ((with_reducible refine Calls.mono (isame_t M_12.out N_12.out) ?_); rintro e w13 ⟨rfl, k13⟩; have BX_13 := hd (BX_12.out.keep k13); have BY_13 := hd (BY_12.out.keep k13); have IX_13 := hd (IX_12.out.keep k13); have IY_13 := hd (IY_12.out.keep k13); have J_13 := hd (J_12.out.keep k13); have BJ_13 := hd (BJ_12.out.keep k13); have M_13 := hd (M_12.out.keep k13); have BM_13 := hd (BM_12.out.keep k13); have N_13 := hd (N_12.out.keep k13); have BN_13 := hd (BN_12.out.keep k13); have U_13 := hd (U_12.out.keep k13); have KW_13 := hd (KW_12.out.trans k13); obtain ⟨a13c0, a13c1, a13c2, a13c3, a13c4, a13c5⟩ := BJ_13.out.d6; obtain ⟨b13c0, b13c1, b13c2, b13c3, b13c4, b13c5⟩ := BX_13.out.d6; obtain ⟨c13c0, c13c1, c13c2, c13c3, c13c4, c13c5⟩ := BY_13.out.d6; obtain ⟨d13c0, d13c1, d13c2, d13c3, d13c4, d13c5⟩ := BM_13.out.d6; obtain ⟨e13c0, e13c1, e13c2, e13c3, e13c4, e13c5⟩ := BN_13.out.d6; clear k13))
      | (go_at_call 20; ((with_reducible refine Calls.mono (isame_t J_11.out U_11.out) ?_); rintro e w12 ⟨rfl, k12⟩; have BX_12 := hd (BX_11.out.keep k12); have BY_12 := hd (BY_11.out.keep k12); have IX_12 := hd (IX_11.out.keep k12); have IY_12 := hd (IY_11.out.keep k12); have J_12 := hd (J_11.out.keep k12); have BJ_12 := hd (BJ_11.out.keep k12); have M_12 := hd (M_11.out.keep k12); have BM_12 := hd (BM_11.out.keep k12); have N_12 := hd (N_11.out.keep k12); have BN_12 := hd (BN_11.out.keep k12); have U_12 := hd (U_11.out.keep k12); have KW_12 := hd (KW_11.out.trans k12); obtain ⟨a12c0, a12c1, a12c2, a12c3, a12c4, a12c5⟩ := BJ_12.out.d6; obtain ⟨b12c0, b12c1, b12c2, b12c3, b12c4, b12c5⟩ := BX_12.out.d6; obtain ⟨c12c0, c12c1, c12c2, c12c3, c12c4, c12c5⟩ := BY_12.out.d6; obtain ⟨d12c0, d12c1, d12c2, d12c3, d12c4, d12c5⟩ := BM_12.out.d6; obtain ⟨e12c0, e12c1, e12c2, e12c3, e12c4, e12c5⟩ := BN_12.out.d6; clear k12))
      | (go_at_call 37; ((with_reducible refine Calls.mono (RJ.out _ IX_10.out IY_10.out) ?_); rintro e w11 ⟨a1, rfl, hU, k11⟩; have BX_11 := hd (BX_10.out.keep k11); have BY_11 := hd (BY_10.out.keep k11); have IX_11 := hd (IX_10.out.keep k11); have IY_11 := hd (IY_10.out.keep k11); have J_11 := hd (J_10.out.keep k11); have BJ_11 := hd (BJ_10.out.keep k11); have M_11 := hd (M_10.out.keep k11); have BM_11 := hd (BM_10.out.keep k11); have N_11 := hd (N_10.out.keep k11); have BN_11 := hd (BN_10.out.keep k11); have U_11 := Lib.hid hU; clear hU; have KW_11 := hd (KW_10.out.trans k11); obtain ⟨a11c0, a11c1, a11c2, a11c3, a11c4, a11c5⟩ := BJ_11.out.d6; obtain ⟨b11c0, b11c1, b11c2, b11c3, b11c4, b11c5⟩ := BX_11.out.d6; obtain ⟨c11c0, c11c1, c11c2, c11c3, c11c4, c11c5⟩ := BY_11.out.d6; obtain ⟨d11c0, d11c1, d11c2, d11c3, d11c4, d11c5⟩ := BM_11.out.d6; obtain ⟨e11c0, e11c1, e11c2, e11c3, e11c4, e11c5⟩ := BN_11.out.d6; clear k11)))
  clear a17c0 a17c1 a17c2 a17c3 a17c4 a17c5 b17c0 b17c1 b17c2 b17c3 b17c4 b17c5 c17c0 c17c1 c17c2 c17c3 c17c4 c17c5 d17c0 d17c1 d17c2 d17c3 d17c4 d17c5 e17c0 e17c1 e17c2 e17c3 e17c4 e17c5 a16c0 a16c1 a16c2 a16c3 a16c4 a16c5 b16c0 b16c1 b16c2 b16c3 b16c4 b16c5 c16c0 c16c1 c16c2 c16c3 c16c4 c16c5 d16c0 d16c1 d16c2 d16c3 d16c4 d16c5 e16c0 e16c1 e16c2 e16c3 e16c4 e16c5 a15c0 a15c1 a15c2 a15c3 a15c4 a15c5 b15c0 b15c1 b15c2 b15c3 b15c4 b15c5 c15c0 c15c1 c15c2 c15c3 c15c4 c15c5 d15c0 d15c1 d15c2 d15c3 d15c4 d15c5 e15c0 e15c1 e15c2 e15c3 e15c4 e15c5 a14c0 a14c1 a14c2 a14c3 a14c4 a14c5 b14c0 b14c1 b14c2 b14c3 b14c4 b14c5 c14c0 c14c1 c14c2 c14c3 c14c4 c14c5 d14c0 d14c1 d14c2 d14c3 d14c4 d14c5 e14c0 e14c1 e14c2 e14c3 e14c4 e14c5 a13c0 a13c1 a13c2 a13c3 a13c4 a13c5 b13c0 b13c1 b13c2 b13c3 b13c4 b13c5 c13c0 c13c1 c13c2 c13c3 c13c4 c13c5 d13c0 d13c1 d13c2 d13c3 d13c4 d13c5 e13c0 e13c1 e13c2 e13c3 e13c4 e13c5 a12c0 a12c1 a12c2 a12c3 a12c4 a12c5 b12c0 b12c1 b12c2 b12c3 b12c4 b12c5 c12c0 c12c1 c12c2 c12c3 c12c4 c12c5 d12c0 d12c1 d12c2 d12c3 d12c4 d12c5 e12c0 e12c1 e12c2 e12c3 e12c4 e12c5 a11c0 a11c1 a11c2 a11c3 a11c4 a11c5 b11c0 b11c1 b11c2 b11c3 b11c4 b11c5 c11c0 c11c1 c11c2 c11c3 c11c4 c11c5 d11c0 d11c1 d11c2 d11c3 d11c4 d11c5 e11c0 e11c1 e11c2 e11c3 e11c4 e11c5 a10c0 a10c1 a10c2 a10c3 a10c4 a10c5 b10c0 b10c1 b10c2 b10c3 b10c4 b10c5 c10c0 c10c1 c10c2 c10c3 c10c4 c10c5 d10c0 d10c1 d10c2 d10c3 d10c4 d10c5 e10c0 e10c1 e10c2 e10c3 e10c4 e10c5
  clear RJ WI RW W1 W2
  clear U_17 N_17 BN_17
  obtain ⟨BX_c0, BX_c1, BX_c2, BX_c3, BX_c4, BX_c5, -, -, -, -, -, -⟩ := BX_17.out.c6
  obtain ⟨BY_c0, BY_c1, BY_c2, BY_c3, BY_c4, BY_c5, -, -, -, -, -, -⟩ := BY_17.out.c6
  obtain ⟨BJ_c0, BJ_c1, BJ_c2, BJ_c3, BJ_c4, BJ_c5, -, -, -, -, -, -⟩ := BJ_17.out.c6
  obtain ⟨BM_c0, BM_c1, BM_c2, BM_c3, BM_c4, BM_c5, -, -, -, -, -, -⟩ := BM_17.out.c6
  go_wp2_with fail
  refine Calls.mono (AT.out _ _ J_17.out) ?_
  rintro e w18 ⟨ux, rfl, hX, k18⟩
  clear BX_c0 BX_c1 BX_c2 BX_c3 BX_c4 BX_c5 BY_c0 BY_c1 BY_c2 BY_c3 BY_c4 BY_c5 BJ_c0 BJ_c1 BJ_c2 BJ_c3 BJ_c4 BJ_c5 BM_c0 BM_c1 BM_c2 BM_c3 BM_c4 BM_c5
  have BX_18 := hd (BX_17.out.keep k18)
  have BY_18 := hd (BY_17.out.keep k18)
  have IX_18 := hd (IX_17.out.keep k18)
  have IY_18 := hd (IY_17.out.keep k18)
  have M_18 := hd (M_17.out.keep k18)
  have BM_18 := hd (BM_17.out.keep k18)
  have X0_18 := Lib.hid hX
  have KW_18 := hd (KW_17.out.trans k18)
  clear k18 J_17 BJ_17 BX_17 BY_17 IX_17 IY_17 M_17 BM_17 hX KW_17
  obtain ⟨fb, fa, fn, fc, fh, fm, fg, rfl, hX2⟩ := Cr.fv X0_18.out
  have XX_18 := Lib.hid hX2
  clear hX2 X0_18
  have BX_19 := hd (BX_18.out.keep (Keep.alloc (Keep.refl _) (.cells #[.bool fb, .slice fa fn fc, .slice fh fm fg] 32)))
  have BY_19 := hd (BY_18.out.keep (Keep.alloc (Keep.refl _) (.cells #[.bool fb, .slice fa fn fc, .slice fh fm fg] 32)))
  have IX_19 := hd (IX_18.out.keep (Keep.alloc (Keep.refl _) (.cells #[.bool fb, .slice fa fn fc, .slice fh fm fg] 32)))
  have IY_19 := hd (IY_18.out.keep (Keep.alloc (Keep.refl _) (.cells #[.bool fb, .slice fa fn fc, .slice fh fm fg] 32)))
  have M_19 := hd (M_18.out.keep (Keep.alloc (Keep.refl _) (.cells #[.bool fb, .slice fa fn fc, .slice fh fm fg] 32)))
  have BM_19 := hd (BM_18.out.keep (Keep.alloc (Keep.refl _) (.cells #[.bool fb, .slice fa fn fc, .slice fh fm fg] 32)))
  have XX_19 := hd (XX_18.out.keep (Keep.alloc (Keep.refl _) (.cells #[.bool fb, .slice fa fn fc, .slice fh fm fg] 32)))
  have KW_19 := hd (KW_18.out.trans (Keep.alloc (Keep.refl _) (.cells #[.bool fb, .slice fa fn fc, .slice fh fm fg] 32)))
  have BF_19 := hd (show Bx w18.heap.size [.bool fb, .slice fa fn fc, .slice fh fm fg] (w18.alloc (.cells #[.bool fb, .slice fa fn fc, .slice fh fm fg] 32)) from Bx.new w18 32 (.b _ (.s _ _ _ (.s _ _ _ .nil))))
  clear BX_18 BY_18 IX_18 IY_18 M_18 BM_18 XX_18 KW_18
  cases ca
  · rw [Bool.false_and] at CM
    have BX_20 := hd (BX_19.out.keep (keep_drew _))
    clear BX_19
    have BY_20 := hd (BY_19.out.keep (keep_drew _))
    clear BY_19
    have IX_20 := hd (IX_19.out.keep (keep_drew _))
    clear IX_19
    have IY_20 := hd (IY_19.out.keep (keep_drew _))
    clear IY_19
    have M_20 := hd (M_19.out.keep (keep_drew _))
    clear M_19
    have BM_20 := hd (BM_19.out.keep (keep_drew _))
    clear BM_19
    have XX_20 := hd (XX_19.out.keep (keep_drew _))
    clear XX_19
    have BF_20 := hd (BF_19.out.keep (keep_drew _))
    clear BF_19
    have KW_20 := hd (KW_19.out.trans (keep_drew _))
    clear KW_19
    obtain ⟨a20c0, a20c1, a20c2, a20c3, a20c4, a20c5⟩ := BM_20.out.d6
    obtain ⟨b20c0, b20c1, b20c2, b20c3, b20c4, b20c5⟩ := BX_20.out.d6
    obtain ⟨c20c0, c20c1, c20c2, c20c3, c20c4, c20c5⟩ := BY_20.out.d6
    obtain ⟨d20c0, d20c1, d20c2⟩ := BF_20.out.d3
    go_wp2
    refine wp_region_held_drew (S := fun w' => w'.cell? ⟨w6.heap.size, 0, none⟩ = some (.bool mlb) ∧ w'.cell? ⟨w6.heap.size, 1, none⟩ = some (.slice mla mln mlc) ∧ w'.cell? ⟨w6.heap.size, 2, none⟩ = some (.slice mlh mlm mlg) ∧ w'.cell? ⟨w6.heap.size, 3, none⟩ = some (.bool mub) ∧ w'.cell? ⟨w6.heap.size, 4, none⟩ = some (.slice mua mun muc) ∧ w'.cell? ⟨w6.heap.size, 5, none⟩ = some (.slice muh mum mug) ∧ w'.cell? ⟨w.heap.size, 0, none⟩ = some (.bool xlb) ∧ w'.cell? ⟨w.heap.size, 1, none⟩ = some (.slice xla xln xlc) ∧ w'.cell? ⟨w.heap.size, 2, none⟩ = some (.slice xlh xlm xlg) ∧ w'.cell? ⟨w.heap.size, 3, none⟩ = some (.bool xub) ∧ w'.cell? ⟨w.heap.size, 4, none⟩ = some (.slice xua xun xuc) ∧ w'.cell? ⟨w.heap.size, 5, none⟩ = some (.slice xuh xum xug) ∧ w'.cell? ⟨w.heap.size + 1, 0, none⟩ = some (.bool ylb) ∧ w'.cell? ⟨w.heap.size + 1, 1, none⟩ = some (.slice yla yln ylc) ∧ w'.cell? ⟨w.heap.size + 1, 2, none⟩ = some (.slice ylh ylm ylg) ∧ w'.cell? ⟨w.heap.size + 1, 3, none⟩ = some (.bool yub) ∧ w'.cell? ⟨w.heap.size + 1, 4, none⟩ = some (.slice yua yun yuc) ∧ w'.cell? ⟨w.heap.size + 1, 5, none⟩ = some (.slice yuh yum yug) ∧ w'.cell? ⟨w18.heap.size, 0, none⟩ = some (.bool fb) ∧ w'.cell? ⟨w18.heap.size, 1, none⟩ = some (.slice fa fn fc) ∧ w'.cell? ⟨w18.heap.size, 2, none⟩ = some (.slice fh fm fg)) (by kernel_rfl) ⟨a20c0, a20c1, a20c2, a20c3, a20c4, a20c5, b20c0, b20c1, b20c2, b20c3, b20c4, b20c5, c20c0, c20c1, c20c2, c20c3, c20c4, c20c5, d20c0, d20c1, d20c2⟩ (fun hHeld => ?_)
    refine wpAnyH_take (i := 0) (oi := _) (v := ?vA0) rfl (by kernel_rfl) (by kernel_rfl) (by kernel_rfl) (fun _ _ _ h => h) (Or.inl ⟨by rfl, ?hyA0⟩) (by assumption) ?restA0
    case hyA0 => (intro wq hSw; (try dsimp only at hSw); first | (go_simp; done) | (go_simp; with_reducible rfl))
    try simp only [Act.put, List.getElem_toArray, List.getElem_cons_succ, List.getElem_cons_zero, List.setIfInBounds_toArray, List.set_cons_zero, List.set_cons_succ]
    refine wpAnyH_take (i := 1) (oi := _) (v := ?vA1) rfl (by kernel_rfl) (by kernel_rfl) (by kernel_rfl) (fun _ _ _ h => h) (Or.inl ⟨by rfl, ?hyA1⟩) (by assumption) ?restA1
    case hyA1 => (intro wq hSw; (try dsimp only at hSw); first | (go_simp; done) | (go_simp; with_reducible rfl))
    try simp only [Act.put, List.getElem_toArray, List.getElem_cons_succ, List.getElem_cons_zero, List.setIfInBounds_toArray, List.set_cons_zero, List.set_cons_succ]
    refine wpAnyH_take (i := 2) (oi := _) (v := ?vA2) rfl (by kernel_rfl) (by kernel_rfl) (by kernel_rfl) (fun _ _ _ h => h) (Or.inl ⟨by rfl, ?hyA2⟩) (by assumption) ?restA2
    case hyA2 => (intro wq hSw; (try dsimp only at hSw); first | (go_simp; done) | (go_simp; with_reducible rfl))
    try simp only [Act.put, List.getElem_toArray, List.getElem_cons_succ, List.getElem_cons_zero, List.setIfInBounds_toArray, List.set_cons_zero, List.set_cons_succ]
    refine wpAnyH_take (i := 3) (oi := _) (v := ?vA3) rfl (by kernel_rfl) (by kernel_rfl) (by kernel_rfl) (fun _ _ _ h => h) (Or.inl ⟨by rfl, ?hyA3⟩) (by assumption) ?restA3
    case hyA3 => (intro wq hSw; (try dsimp only at hSw); first | (go_simp; done) | (go_simp; with_reducible rfl))
    try simp only [Act.put, List.getElem_toArray, List.getElem_cons_succ, List.getElem_cons_zero, List.setIfInBounds_toArray, List.set_cons_zero, List.set_cons_succ]
    refine wpAnyH_take (i := 4) (oi := _) (v := ?vA4) rfl (by kernel_rfl) (by kernel_rfl) (by kernel_rfl) (fun _ _ _ h => h) (Or.inl ⟨by rfl, ?hyA4⟩) (by assumption) ?restA4
    case hyA4 => (intro wq hSw; (try dsimp only at hSw); first | (go_simp; done) | (go_simp; with_reducible rfl))
    try simp only [Act.put, List.getElem_toArray, List.getElem_cons_succ, List.getElem_cons_zero, List.setIfInBounds_toArray, List.set_cons_zero, List.set_cons_succ]
    refine wpAnyH_take (i := 7) (oi := _) (v := ?vA7) rfl (by kernel_rfl) (by kernel_rfl) (by kernel_rfl) (fun _ _ _ h => h) (Or.inl ⟨by rfl, ?hyA7⟩) (by assumption) ?restA7
    case hyA7 => (intro wq hSw; (try dsimp only at hSw); first | (go_simp; done) | (go_simp; with_reducible rfl))
    try simp only [Act.put, List.getElem_toArray, List.getElem_cons_succ, List.getElem_cons_zero, List.setIfInBounds_toArray, List.set_cons_zero, List.set_cons_succ]
    refine wpAnyH_take (i := 8) (oi := _) (v := ?vA8) rfl (by kernel_rfl) (by kernel_rfl) (by kernel_rfl) (fun _ _ _ h => h) (Or.inl ⟨by rfl, ?hyA8⟩) (by assumption) ?restA8
    case hyA8 => (intro wq hSw; (try dsimp only at hSw); first | (go_simp; done) | (go_simp; with_reducible rfl))
    try simp only [Act.put, List.getElem_toArray, List.getElem_cons_succ, List.getElem_cons_zero, List.setIfInBounds_toArray, List.set_cons_zero, List.set_cons_succ]
    refine wpAnyH_ready (rs := [5]) (by kernel_rfl) (by simp) ?_
    refine AllReadyH.cons (o := _) rfl (fun K hK => ?_) AllReadyH.nil
    go_simp
    refine Calls.mono (CM.out _ _ _ M_20.out XX_20.out) ?_
    rintro e w21 ⟨rfl, k21⟩
    have BX_21 := hd (BX_20.out.keep k21)
    have BY_21 := hd (BY_20.out.keep k21)
    have IX_21 := hd (IX_20.out.keep k21)
    have IY_21 := hd (IY_20.out.keep k21)
    have M_21 := hd (M_20.out.keep k21)
    have BM_21 := hd (BM_20.out.keep k21)
    have XX_21 := hd (XX_20.out.keep k21)
    have BF_21 := hd (BF_20.out.keep k21)
    have KW_21 := hd (KW_20.out.trans k21)
    clear k21 BX_20 BY_20 IX_20 IY_20 M_20 BM_20 XX_20 BF_20 KW_20
    obtain ⟨a21c0, a21c1, a21c2, a21c3, a21c4, a21c5⟩ := BM_21.out.d6
    obtain ⟨b21c0, b21c1, b21c2, b21c3, b21c4, b21c5⟩ := BX_21.out.d6
    obtain ⟨c21c0, c21c1, c21c2, c21c3, c21c4, c21c5⟩ := BY_21.out.d6
    obtain ⟨d21c0, d21c1, d21c2⟩ := BF_21.out.d3
    go_wp2_with fail
    refine hK.out _ _ ⟨a21c0, a21c1, a21c2, a21c3, a21c4, a21c5, b21c0, b21c1, b21c2, b21c3, b21c4, b21c5, c21c0, c21c1, c21c2, c21c3, c21c4, c21c5, d21c0, d21c1, d21c2⟩ (fun hHeld2 => ?_)
    clear hK K hHeld a20c0 a20c1 a20c2 a20c3 a20c4 a20c5 b20c0 b20c1 b20c2 b20c3 b20c4 b20c5 c20c0 c20c1 c20c2 c20c3 c20c4 c20c5 d20c0 d20c1 d20c2
    have hHeld := hHeld2
    clear hHeld2
    try simp only [Act.put, List.setIfInBounds_toArray, List.set_cons_zero, List.set_cons_succ]
    refine wpAnyH_take (i := 6) (oi := _) (v := ?vA6) rfl (by kernel_rfl) (by kernel_rfl) (by kernel_rfl) (fun _ _ _ h => h) (Or.inl ⟨by rfl, ?hyA6⟩) (by assumption) ?restA6
    case hyA6 => (intro wq hSw; (try dsimp only at hSw); first | (go_simp; done) | (go_simp; with_reducible rfl))
    try simp only [Act.put, List.getElem_toArray, List.getElem_cons_succ, List.getElem_cons_zero, List.setIfInBounds_toArray, List.set_cons_zero, List.set_cons_succ]
    refine wpAnyH_ready (rs := [9]) (by kernel_rfl) (by simp) ?_
    refine AllReadyH.cons (o := _) rfl (fun K hK => ?_) AllReadyH.nil
    go_simp
    refine Calls.mono (CA.out _ _ IX_21.out XX_21.out) ?_
    rintro e w22 ⟨rfl, k22⟩
    have BX_22 := hd (BX_21.out.keep k22)
    have BY_22 := hd (BY_21.out.keep k22)
    have IX_22 := hd (IX_21.out.keep k22)
    have IY_22 := hd (IY_21.out.keep k22)
    have M_22 := hd (M_21.out.keep k22)
    have BM_22 := hd (BM_21.out.keep k22)
    have XX_22 := hd (XX_21.out.keep k22)
    have BF_22 := hd (BF_21.out.keep k22)
    have KW_22 := hd (KW_21.out.trans k22)
    clear k22 BX_21 BY_21 IX_21 IY_21 M_21 BM_21 XX_21 BF_21 KW_21
    obtain ⟨a22c0, a22c1, a22c2, a22c3, a22c4, a22c5⟩ := BM_22.out.d6
    obtain ⟨b22c0, b22c1, b22c2, b22c3, b22c4, b22c5⟩ := BX_22.out.d6
    obtain ⟨c22c0, c22c1, c22c2, c22c3, c22c4, c22c5⟩ := BY_22.out.d6
    obtain ⟨d22c0, d22c1, d22c2⟩ := BF_22.out.d3
    go_wp2_with fail
    refine hK.out _ _ ⟨a22c0, a22c1, a22c2, a22c3, a22c4, a22c5, b22c0, b22c1, b22c2, b22c3, b22c4, b22c5, c22c0, c22c1, c22c2, c22c3, c22c4, c22c5, d22c0, d22c1, d22c2⟩ (fun hHeld2 => ?_)
    clear hK K hHeld a21c0 a21c1 a21c2 a21c3 a21c4 a21c5 b21c0 b21c1 b21c2 b21c3 b21c4 b21c5 c21c0 c21c1 c21c2 c21c3 c21c4 c21c5 d21c0 d21c1 d21c2
    have hHeld := hHeld2
    clear hHeld2
    try simp only [Act.put, List.setIfInBounds_toArray, List.set_cons_zero, List.set_cons_succ]
    refine wpAnyH_take (i := 10) (oi := _) (v := ?vA10) rfl (by kernel_rfl) (by kernel_rfl) (by kernel_rfl) (fun _ _ _ h => h) (Or.inl ⟨by rfl, ?hyA10⟩) (by assumption) ?restA10
    case hyA10 => (intro wq hSw; (try dsimp only at hSw); first | (go_simp; done) | (go_simp; with_reducible rfl))
    try simp only [Act.put, List.getElem_toArray, List.getElem_cons_succ, List.getElem_cons_zero, List.setIfInBounds_toArray, List.set_cons_zero, List.set_cons_succ]
    refine wpAnyH_take (i := 11) (oi := _) (v := undef) rfl (by kernel_rfl) (by kernel_rfl) (by kernel_rfl) (fun _ _ _ h => h) (Or.inr ⟨by rfl, rfl⟩) (by assumption) ?_
    try simp only [Act.put, List.setIfInBounds_toArray, List.set_cons_zero, List.set_cons_succ]
    refine wpAnyH_take (i := 12) (oi := _) (v := undef) rfl (by kernel_rfl) (by kernel_rfl) (by kernel_rfl) (fun _ _ _ h => h) (Or.inr ⟨by rfl, rfl⟩) (by assumption) ?_
    try simp only [Act.put, List.setIfInBounds_toArray, List.set_cons_zero, List.set_cons_succ]
    refine wpAnyH_take (i := 13) (oi := _) (v := undef) rfl (by kernel_rfl) (by kernel_rfl) (by kernel_rfl) (fun _ _ _ h => h) (Or.inr ⟨by rfl, rfl⟩) (by assumption) ?_
    try simp only [Act.put, List.setIfInBounds_toArray, List.set_cons_zero, List.set_cons_succ]
    refine wpAnyH_take (i := 14) (oi := _) (v := ?vA14) rfl (by kernel_rfl) (by kernel_rfl) (by kernel_rfl) (fun _ _ _ h => h) (Or.inl ⟨by rfl, ?hyA14⟩) (by assumption) ?restA14
    case hyA14 => (intro wq hSw; (try dsimp only at hSw); first | (go_simp; done) | (go_simp; with_reducible rfl))
    try simp only [Act.put, List.getElem_toArray, List.getElem_cons_succ, List.getElem_cons_zero, List.setIfInBounds_toArray, List.set_cons_zero, List.set_cons_succ]
    refine wpAnyH_take (i := 15) (oi := _) (v := ?vA15) rfl (by kernel_rfl) (by kernel_rfl) (by kernel_rfl) (fun _ _ _ h => h) (Or.inl ⟨by rfl, ?hyA15⟩) (by assumption) ?restA15
    case hyA15 => (intro wq hSw; (try dsimp only at hSw); first | (go_simp; done) | (go_simp; with_reducible rfl))
    try simp only [Act.put, List.getElem_toArray, List.getElem_cons_succ, List.getElem_cons_zero, List.setIfInBounds_toArray, List.set_cons_zero, List.set_cons_succ]
    refine wpAnyH_take (i := 16) (oi := _) (v := ?vA16) rfl (by kernel_rfl) (by kernel_rfl) (by kernel_rfl) (fun _ _ _ h => h) (Or.inl ⟨by rfl, ?hyA16⟩) (by assumption) ?restA16
    case hyA16 => (intro wq hSw; (try dsimp only at hSw); first | (go_simp; done) | (go_simp; with_reducible rfl))
    try simp only [Act.put, List.getElem_toArray, List.getElem_cons_succ, List.getElem_cons_zero, List.setIfInBounds_toArray, List.set_cons_zero, List.set_cons_succ]
    try simp only [Act.put, List.getElem_toArray, List.getElem_cons_succ, List.getElem_cons_zero, List.setIfInBounds_toArray, List.set_cons_zero, List.set_cons_succ]
    refine wpAnyH_done (by kernel_rfl) ?_ _
    try go_simp
    clear hHeld a22c0 a22c1 a22c2 a22c3 a22c4 a22c5 b22c0 b22c1 b22c2 b22c3 b22c4 b22c5 c22c0 c22c1 c22c2 c22c3 c22c4 c22c5 d22c0 d22c1 d22c2
    all_goals
      go_wp2_with fail
      go_ret
      refine ⟨?_, KW_22.out⟩
      first | rfl | (subst_vars; rw [List.getElem?_set_self (by rw [List.length_set]; exact (by decide : 6 < 95))]; rfl) | (subst_vars; rw [List.getElem?_set_self (by simp)]; rfl) | (subst_vars; simp; done)
  · rw [Bool.true_and] at CM
    have BX_20 := hd (BX_19.out.keep (keep_drew _))
    clear BX_19
    have BY_20 := hd (BY_19.out.keep (keep_drew _))
    clear BY_19
    have IX_20 := hd (IX_19.out.keep (keep_drew _))
    clear IX_19
    have IY_20 := hd (IY_19.out.keep (keep_drew _))
    clear IY_19
    have M_20 := hd (M_19.out.keep (keep_drew _))
    clear M_19
    have BM_20 := hd (BM_19.out.keep (keep_drew _))
    clear BM_19
    have XX_20 := hd (XX_19.out.keep (keep_drew _))
    clear XX_19
    have BF_20 := hd (BF_19.out.keep (keep_drew _))
    clear BF_19
    have KW_20 := hd (KW_19.out.trans (keep_drew _))
    clear KW_19
    obtain ⟨a20c0, a20c1, a20c2, a20c3, a20c4, a20c5⟩ := BM_20.out.d6
    obtain ⟨b20c0, b20c1, b20c2, b20c3, b20c4, b20c5⟩ := BX_20.out.d6
    obtain ⟨c20c0, c20c1, c20c2, c20c3, c20c4, c20c5⟩ := BY_20.out.d6
    obtain ⟨d20c0, d20c1, d20c2⟩ := BF_20.out.d3
    go_wp2
    go_region_held3 (fun w' => w'.cell? ⟨w6.heap.size, 0, none⟩ = some (.bool mlb) ∧ w'.cell? ⟨w6.heap.size, 1, none⟩ = some (.slice mla mln mlc) ∧ w'.cell? ⟨w6.heap.size, 2, none⟩ = some (.slice mlh mlm mlg) ∧ w'.cell? ⟨w6.heap.size, 3, none⟩ = some (.bool mub) ∧ w'.cell? ⟨w6.heap.size, 4, none⟩ = some (.slice mua mun muc) ∧ w'.cell? ⟨w6.heap.size, 5, none⟩ = some (.slice muh mum mug) ∧ w'.cell? ⟨w.heap.size, 0, none⟩ = some (.bool xlb) ∧ w'.cell? ⟨w.heap.size, 1, none⟩ = some (.slice xla xln xlc) ∧ w'.cell? ⟨w.heap.size, 2, none⟩ = some (.slice xlh xlm xlg) ∧ w'.cell? ⟨w.heap.size, 3, none⟩ = some (.bool xub) ∧ w'.cell? ⟨w.heap.size, 4, none⟩ = some (.slice xua xun xuc) ∧ w'.cell? ⟨w.heap.size, 5, none⟩ = some (.slice xuh xum xug) ∧ w'.cell? ⟨w.heap.size + 1, 0, none⟩ = some (.bool ylb) ∧ w'.cell? ⟨w.heap.size + 1, 1, none⟩ = some (.slice yla yln ylc) ∧ w'.cell? ⟨w.heap.size + 1, 2, none⟩ = some (.slice ylh ylm ylg) ∧ w'.cell? ⟨w.heap.size + 1, 3, none⟩ = some (.bool yub) ∧ w'.cell? ⟨w.heap.size + 1, 4, none⟩ = some (.slice yua yun yuc) ∧ w'.cell? ⟨w.heap.size + 1, 5, none⟩ = some (.slice yuh yum yug) ∧ w'.cell? ⟨w18.heap.size, 0, none⟩ = some (.bool fb) ∧ w'.cell? ⟨w18.heap.size, 1, none⟩ = some (.slice fa fn fc) ∧ w'.cell? ⟨w18.heap.size, 2, none⟩ = some (.slice fh fm fg)) (first | with_reducible exact ⟨a23c0, a23c1, a23c2, a23c3, a23c4, a23c5, b23c0, b23c1, b23c2, b23c3, b23c4, b23c5, c23c0, c23c1, c23c2, c23c3, c23c4, c23c5, d23c0, d23c1, d23c2⟩ | with_reducible exact ⟨a22c0, a22c1, a22c2, a22c3, a22c4, a22c5, b22c0, b22c1, b22c2, b22c3, b22c4, b22c5, c22c0, c22c1, c22c2, c22c3, c22c4, c22c5, d22c0, d22c1, d22c2⟩ | with_reducible exact ⟨a21c0, a21c1, a21c2, a21c3, a21c4, a21c5, b21c0, b21c1, b21c2, b21c3, b21c4, b21c5, c21c0, c21c1, c21c2, c21c3, c21c4, c21c5, d21c0, d21c1, d21c2⟩ | with_reducible exact ⟨a20c0, a20c1, a20c2, a20c3, a20c4, a20c5, b20c0, b20c1, b20c2, b20c3, b20c4, b20c5, c20c0, c20c1, c20c2, c20c3, c20c4, c20c5, d20c0, d20c1, d20c2⟩ | go_keep)
      (first
        | (go_at_call 23; ((with_reducible refine Calls.mono (CB.out _ _ IY_22.out XX_22.out) ?_); rintro e w23 ⟨rfl, k23⟩; have BX_23 := hd (BX_22.out.keep k23); have BY_23 := hd (BY_22.out.keep k23); have IX_23 := hd (IX_22.out.keep k23); have IY_23 := hd (IY_22.out.keep k23); have M_23 := hd (M_22.out.keep k23); have BM_23 := hd (BM_22.out.keep k23); have XX_23 := hd (XX_22.out.keep k23); have BF_23 := hd (BF_22.out.keep k23); have KW_23 := hd (KW_22.out.trans k23); obtain ⟨a23c0, a23c1, a23c2, a23c3, a23c4, a23c5⟩ := BM_23.out.d6; obtain ⟨b23c0, b23c1, b23c2, b23c3, b23c4, b23c5⟩ := BX_23.out.d6; obtain ⟨c23c0, c23c1, c23c2, c23c3, c23c4, c23c5⟩ := BY_23.out.d6; obtain ⟨d23c0, d23c1, d23c2⟩ := BF_23.out.d3; clear k23))
        | (go_at_call 23; ((with_reducible refine Calls.mono (CA.out _ _ IX_21.out XX_21.out) ?_); rintro e w22 ⟨rfl, k22⟩; have BX_22 := hd (BX_21.out.keep k22); have BY_22 := hd (BY_21.out.keep k22); have IX_22 := hd (IX_21.out.keep k22); have IY_22 := hd (IY_21.out.keep k22); have M_22 := hd (M_21.out.keep k22); have BM_22 := hd (BM_21.out.keep k22); have XX_22 := hd (XX_21.out.keep k22); have BF_22 := hd (BF_21.out.keep k22); have KW_22 := hd (KW_21.out.trans k22); obtain ⟨a22c0, a22c1, a22c2, a22c3, a22c4, a22c5⟩ := BM_22.out.d6; obtain ⟨b22c0, b22c1, b22c2, b22c3, b22c4, b22c5⟩ := BX_22.out.d6; obtain ⟨c22c0, c22c1, c22c2, c22c3, c22c4, c22c5⟩ := BY_22.out.d6; obtain ⟨d22c0, d22c1, d22c2⟩ := BF_22.out.d3; clear k22))
        | (go_at_call 23; ((with_reducible refine Calls.mono (CM.out _ _ _ M_20.out XX_20.out) ?_); rintro e w21 ⟨rfl, k21⟩; have BX_21 := hd (BX_20.out.keep k21); have BY_21 := hd (BY_20.out.keep k21); have IX_21 := hd (IX_20.out.keep k21); have IY_21 := hd (IY_20.out.keep k21); have M_21 := hd (M_20.out.keep k21); have BM_21 := hd (BM_20.out.keep k21); have XX_21 := hd (XX_20.out.keep k21); have BF_21 := hd (BF_20.out.keep k21); have KW_21 := hd (KW_20.out.trans k21); obtain ⟨a21c0, a21c1, a21c2, a21c3, a21c4, a21c5⟩ := BM_21.out.d6; obtain ⟨b21c0, b21c1, b21c2, b21c3, b21c4, b21c5⟩ := BX_21.out.d6; obtain ⟨c21c0, c21c1, c21c2, c21c3, c21c4, c21c5⟩ := BY_21.out.d6; obtain ⟨d21c0, d21c1, d21c2⟩ := BF_21.out.d3; clear k21)))
    clear a23c0 a23c1 a23c2 a23c3 a23c4 a23c5 b23c0 b23c1 b23c2 b23c3 b23c4 b23c5 c23c0 c23c1 c23c2 c23c3 c23c4 c23c5 d23c0 d23c1 d23c2 a22c0 a22c1 a22c2 a22c3 a22c4 a22c5 b22c0 b22c1 b22c2 b22c3 b22c4 b22c5 c22c0 c22c1 c22c2 c22c3 c22c4 c22c5 d22c0 d22c1 d22c2 a21c0 a21c1 a21c2 a21c3 a21c4 a21c5 b21c0 b21c1 b21c2 b21c3 b21c4 b21c5 c21c0 c21c1 c21c2 c21c3 c21c4 c21c5 d21c0 d21c1 d21c2 a20c0 a20c1 a20c2 a20c3 a20c4 a20c5 b20c0 b20c1 b20c2 b20c3 b20c4 b20c5 c20c0 c20c1 c20c2 c20c3 c20c4 c20c5 d20c0 d20c1 d20c2
    all_goals
      go_wp2_with fail
      go_ret
      refine ⟨?_, KW_23.out⟩
      first | rfl | (subst_vars; rw [List.getElem?_set_self (by rw [List.length_set]; exact (by decide : 6 < 95))]; rfl) | (subst_vars; rw [List.getElem?_set_self (by simp)]; rfl) | (subst_vars; simp; done)
set_option maxRecDepth 100000 in
set_option maxHeartbeats 8000000 in
theorem join_law_s1 {w : World} {xlb : Bool} {xla xlh : Option Addr} {xln xlc xlm xlg : Nat} {xub : Bool} {xua xuh : Option Addr} {xun xuc xum xug : Nat} {xl1 xl2 xu1 xu2 : List Nat} (hx1 : Rd w xla xln xlc xl1) (hx2 : Rd w xlh xlm xlg xl2) (hx3 : Rd w xua xun xuc xu1) (hx4 : Rd w xuh xum xug xu2) {ylb : Bool} {yla ylh : Option Addr} {yln ylc ylm ylg : Nat} {yub : Bool} {yua yuh : Option Addr} {yun yuc yum yug : Nat} {yl1 yl2 yu1 yu2 : List Nat} (hy1 : Rd w yla yln ylc yl1) (hy2 : Rd w ylh ylm ylg yl2) (hy3 : Rd w yua yun yuc yu1) (hy4 : Rd w yuh yum yug yu2) (part : Int) (hT : Tab w) (hp0 : 0 ≤ part) (hp1 : part ≤ 255) (ex : smallB xlb xl1 xl2 xub xu1 xu2 = true) (ey : smallB ylb yl1 yl2 yub yu1 yu2 = true) {p q r s : Rat} (gp : rv xlb (nv xl1) (nv xl2) = p) (gq : rv xub (nv xu1) (nv xu2) = q) (gr : rv ylb (nv yl1) (nv yl2) = r) (gs : rv yub (nv yu1) (nv yu2) = s) (hc : 0 < rC (rmax p r) (rmin q s)) : Calls Tryd.prog 7 #[.agg #[.bool xlb, .slice xla xln xlc, .slice xlh xlm xlg, .bool xub, .slice xua xun xuc, .slice xuh xum xug], .agg #[.bool ylb, .slice yla yln ylc, .slice ylh ylm ylg, .bool yub, .slice yua yun yuc, .slice yuh yum yug], .int .u8 part] w (BPost true w) := by
  have KW_0 := hd (show Keep w ((w.alloc (.cells #[.bool xlb, .slice xla xln xlc, .slice xlh xlm xlg, .bool xub, .slice xua xun xuc, .slice xuh xum xug] 35)).alloc (.cells #[.bool ylb, .slice yla yln ylc, .slice ylh ylm ylg, .bool yub, .slice yua yun yuc, .slice yuh yum yug] 35)) from (Keep.alloc (Keep.alloc (Keep.refl _) _) _))
  have BX_0 := hd (show Bx (w.heap.size) [.bool xlb, .slice xla xln xlc, .slice xlh xlm xlg, .bool xub, .slice xua xun xuc, .slice xuh xum xug] ((w.alloc (.cells #[.bool xlb, .slice xla xln xlc, .slice xlh xlm xlg, .bool xub, .slice xua xun xuc, .slice xuh xum xug] 35)).alloc (.cells #[.bool ylb, .slice yla yln ylc, .slice ylh ylm ylg, .bool yub, .slice yua yun yuc, .slice yuh yum yug] 35)) from ((Bx.new w 35 (.b _ (.s _ _ _ (.s _ _ _ (.b _ (.s _ _ _ (.s _ _ _ .nil))))))).at (g' := w.heap.size) (by simp)).keep (Keep.alloc (Keep.refl _) _))
  have BY_0 := hd (show Bx (w.heap.size + 1) [.bool ylb, .slice yla yln ylc, .slice ylh ylm ylg, .bool yub, .slice yua yun yuc, .slice yuh yum yug] ((w.alloc (.cells #[.bool xlb, .slice xla xln xlc, .slice xlh xlm xlg, .bool xub, .slice xua xun xuc, .slice xuh xum xug] 35)).alloc (.cells #[.bool ylb, .slice yla yln ylc, .slice ylh ylm ylg, .bool yub, .slice yua yun yuc, .slice yuh yum yug] 35)) from ((Bx.new (w.alloc (.cells #[.bool xlb, .slice xla xln xlc, .slice xlh xlm xlg, .bool xub, .slice xua xun xuc, .slice xuh xum xug] 35)) 35 (.b _ (.s _ _ _ (.s _ _ _ (.b _ (.s _ _ _ (.s _ _ _ .nil))))))).at (g' := w.heap.size + 1) (by simp)).keep (Keep.refl _))
  have X1_0 := hd (hx1.below KW_0.out)
  have X2_0 := hd (hx2.below KW_0.out)
  have X3_0 := hd (hx3.below KW_0.out)
  have X4_0 := hd (hx4.below KW_0.out)
  have Y1_0 := hd (hy1.below KW_0.out)
  have Y2_0 := hd (hy2.below KW_0.out)
  have Y3_0 := hd (hy3.below KW_0.out)
  have Y4_0 := hd (hy4.below KW_0.out)
  have T_0 := hd (hT.keep KW_0.out)
  have AW := hd (fun w1 (hT1 : Tab w1) => awake6_c w1 hT1)
  have Sx := hd (fun w1 (h1 : Rd w1 xla xln xlc xl1) (h2 : Rd w1 xlh xlm xlg xl2) (h3 : Rd w1 xua xun xuc xu1) (h4 : Rd w1 xuh xum xug xu2) => small_c (w := w1) (xlb := xlb) (xub := xub) h1 h2 h3 h4)
  rw [ex] at Sx
  have Sy := hd (fun w1 (h1 : Rd w1 yla yln ylc yl1) (h2 : Rd w1 ylh ylm ylg yl2) (h3 : Rd w1 yua yun yuc yu1) (h4 : Rd w1 yuh yum yug yu2) => small_c (w := w1) (xlb := ylb) (xub := yub) h1 h2 h3 h4)
  rw [ey] at Sy
  obtain ⟨⟨jx1, jx2⟩, ⟨jx3, jx4⟩, hlex⟩ := smallB_le ex
  have hrxl := rdRa (s := xlb) hx1 hx2 jx1 jx2
  have hrxu := rdRa (s := xub) hx3 hx4 jx3 jx4
  have hqxl := gp
  have hqxu := gq
  rw [hqxl] at hrxl hlex
  rw [hqxu] at hrxu hlex
  have hix : IRa w (.agg #[.bool xlb, .slice xla xln xlc, .slice xlh xlm xlg, .bool xub, .slice xua xun xuc, .slice xuh xum xug]) p q 2 := ⟨xlb, xla, xln, xlc, xlh, xlm, xlg, xub, xua, xun, xuc, xuh, xum, xug, rfl, hrxl, hrxu⟩
  have IX_0 := hd (hix.keep KW_0.out)
  have rbp := hrxl.rb (by omega)
  have rbq := hrxu.rb (by omega)
  have XL_0 := hd (hrxl.keep KW_0.out)
  have XU_0 := hd (hrxu.keep KW_0.out)
  have HLx := Lib.hid hlex
  clear hqxl hqxu jx1 jx2 jx3 jx4
  obtain ⟨⟨jy1, jy2⟩, ⟨jy3, jy4⟩, hley⟩ := smallB_le ey
  have hryl := rdRa (s := ylb) hy1 hy2 jy1 jy2
  have hryu := rdRa (s := yub) hy3 hy4 jy3 jy4
  have hqyl := gr
  have hqyu := gs
  rw [hqyl] at hryl hley
  rw [hqyu] at hryu hley
  have hiy : IRa w (.agg #[.bool ylb, .slice yla yln ylc, .slice ylh ylm ylg, .bool yub, .slice yua yun yuc, .slice yuh yum yug]) r s 2 := ⟨ylb, yla, yln, ylc, ylh, ylm, ylg, yub, yua, yun, yuc, yuh, yum, yug, rfl, hryl, hryu⟩
  have IY_0 := hd (hiy.keep KW_0.out)
  have rbr := hryl.rb (by omega)
  have rbs := hryu.rb (by omega)
  have YL_0 := hd (hryl.keep KW_0.out)
  have YU_0 := hd (hryu.keep KW_0.out)
  have HLy := Lib.hid hley
  clear hqyl hqyu jy1 jy2 jy3 jy4
  have JN := hd (fun w1 (h : IRa w1 (.agg #[.bool xlb, .slice xla xln xlc, .slice xlh xlm xlg, .bool xub, .slice xua xun xuc, .slice xuh xum xug]) p q 2) (h' : IRa w1 (.agg #[.bool ylb, .slice yla yln ylc, .slice ylh ylm ylg, .bool yub, .slice yua yun yuc, .slice yuh yum yug]) r s 2) (hT1 : Tab w1) => ijoin h h' (by omega) (by omega) hT1)
  have ME := hd (fun w1 (h : IRa w1 (.agg #[.bool xlb, .slice xla xln xlc, .slice xlh xlm xlg, .bool xub, .slice xua xun xuc, .slice xuh xum xug]) p q 2) (h' : IRa w1 (.agg #[.bool ylb, .slice yla yln ylc, .slice ylh ylm ylg, .bool yub, .slice yua yun yuc, .slice yuh yum yug]) r s 2) (hT1 : Tab w1) => imeet_1 h h' (by omega) (by omega) hT1 hc)
  have RM := hd (fun w1 (h : IRa w1 (.agg #[.bool xlb, .slice xla xln xlc, .slice xlh xlm xlg, .bool xub, .slice xua xun xuc, .slice xuh xum xug]) p q 2) (h' : IRa w1 (.agg #[.bool ylb, .slice yla yln ylc, .slice ylh ylm ylg, .bool yub, .slice yua yun yuc, .slice yuh yum yug]) r s 2) => rimeet_1 h h' (by omega) (by omega) hc)
  have RJ := hd (fun w1 (h : IRa w1 (.agg #[.bool xlb, .slice xla xln xlc, .slice xlh xlm xlg, .bool xub, .slice xua xun xuc, .slice xuh xum xug]) p q 2) (h' : IRa w1 (.agg #[.bool ylb, .slice yla yln ylc, .slice ylh ylm ylg, .bool yub, .slice yua yun yuc, .slice yuh yum yug]) r s 2) => rijoin h h' (by omega) (by omega))
  have WI := hd (fun w1 (h : IRa w1 (.agg #[.bool xlb, .slice xla xln xlc, .slice xlh xlm xlg, .bool xub, .slice xua xun xuc, .slice xuh xum xug]) p q 2) (h' : IRa w1 (.agg #[.bool ylb, .slice yla yln ylc, .slice ylh ylm ylg, .bool yub, .slice yua yun yuc, .slice yuh yum yug]) r s 2) => iwithin_c h h' (by omega) (by omega))
  have RW := hd (fun w1 (h : IRa w1 (.agg #[.bool xlb, .slice xla xln xlc, .slice xlh xlm xlg, .bool xub, .slice xua xun xuc, .slice xuh xum xug]) p q 2) (h' : IRa w1 (.agg #[.bool ylb, .slice yla yln ylc, .slice ylh ylm ylg, .bool yub, .slice yua yun yuc, .slice yuh yum yug]) r s 2) => riwithin_c h h' (by omega) (by omega))
  obtain ⟨c1, hc1⟩ : ∃ c, decide (r ≤ p ∧ q ≤ s) = c := ⟨_, rfl⟩
  rw [hc1] at WI RW
  have bl := rbp.rmin rbr
  have bu := rbq.rmax rbs
  have W1 := hd (fun w1 u (h : IRa w1 (.agg #[.bool xlb, .slice xla xln xlc, .slice xlh xlm xlg, .bool xub, .slice xua xun xuc, .slice xuh xum xug]) p q 2) (h' : ICr w1 u (rmin p r) (rmax q s)) => iwithin_c h (h'.ra bl bu) (by omega) (by omega))
  rw [decide_eq_true ⟨(rmin_le p r).1, (le_rmax q s).1⟩] at W1
  have W2 := hd (fun w1 u (h : IRa w1 (.agg #[.bool ylb, .slice yla yln ylc, .slice ylh ylm ylg, .bool yub, .slice yua yun yuc, .slice yuh yum yug]) r s 2) (h' : ICr w1 u (rmin p r) (rmax q s)) => iwithin_c h (h'.ra bl bu) (by omega) (by omega))
  rw [decide_eq_true ⟨(rmin_le p r).2, (le_rmax q s).2⟩] at W2
  have AT := hd (fun w1 u (h : ICr w1 u (rmin p r) (rmax q s)) => at_c part (h.ra bl bu) (by omega) (by omega) hp0 hp1)
  have bX := (bl.add ((rb255 hp0 hp1).mul (bu.sub bl) (by omega))).up (j := 10) (by omega)
  obtain ⟨X, gX⟩ : ∃ z, rmin p r + (part : Rat) / ((255 : Int) : Rat) * (rmax q s - rmin p r) = z := ⟨_, rfl⟩
  rw [gX] at AT bX
  have CA := hd (fun w1 v (h : IRa w1 (.agg #[.bool xlb, .slice xla xln xlc, .slice xlh xlm xlg, .bool xub, .slice xua xun xuc, .slice xuh xum xug]) p q 2) (h' : Cr w1 v X) => icontains_c (h.up (j := 10) (by omega)) (h'.ra bX) (by omega) (by omega))
  have CB := hd (fun w1 v (h : IRa w1 (.agg #[.bool ylb, .slice yla yln ylc, .slice ylh ylm ylg, .bool yub, .slice yua yun yuc, .slice yuh yum yug]) r s 2) (h' : Cr w1 v X) => icontains_c (h.up (j := 10) (by omega)) (h'.ra bX) (by omega) (by omega))
  have HN := hd (meet_false hc X)
  obtain ⟨ca, ha⟩ : ∃ c, decide (p ≤ X ∧ X ≤ q) = c := ⟨_, rfl⟩
  obtain ⟨cb, hb⟩ : ∃ c, decide (r ≤ X ∧ X ≤ s) = c := ⟨_, rfl⟩
  rw [ha] at CA HN
  rw [hb] at CB HN
  obtain ⟨J1, hJ1⟩ : ∃ z, rmin p r = z := ⟨_, rfl⟩
  obtain ⟨J2, hJ2⟩ : ∃ z, rmax q s = z := ⟨_, rfl⟩
  rw [hJ1, hJ2] at JN RJ W1 W2 AT
  clear hJ1 hJ2
  clear hT ex ey gp gq gr gs hc gX ha hb hc1 bl bu bX rbp rbq rbr rbs hix hiy hrxl hrxu hryl hryu hlex hley HLx HLy hx1 hx2 hx3 hx4 hy1 hy2 hy3 hy4
  go_enter Tryd.func7, Tryd.ntmps7
  obtain ⟨BX_c0, BX_c1, BX_c2, BX_c3, BX_c4, BX_c5, -, -, -, -, -, -⟩ := BX_0.out.c6
  obtain ⟨BY_c0, BY_c1, BY_c2, BY_c3, BY_c4, BY_c5, -, -, -, -, -, -⟩ := BY_0.out.c6
  go_wp2_with fail
  refine Calls.mono (AW.out _ T_0.out) ?_
  rintro e w1 ⟨rfl, k1⟩
  clear BX_c0 BX_c1 BX_c2 BX_c3 BX_c4 BX_c5 BY_c0 BY_c1 BY_c2 BY_c3 BY_c4 BY_c5
  have BX_1 := hd (BX_0.out.keep k1)
  have BY_1 := hd (BY_0.out.keep k1)
  have X1_1 := hd (X1_0.out.keep k1)
  have X2_1 := hd (X2_0.out.keep k1)
  have X3_1 := hd (X3_0.out.keep k1)
  have X4_1 := hd (X4_0.out.keep k1)
  have Y1_1 := hd (Y1_0.out.keep k1)
  have Y2_1 := hd (Y2_0.out.keep k1)
  have Y3_1 := hd (Y3_0.out.keep k1)
  have Y4_1 := hd (Y4_0.out.keep k1)
  have T_1 := hd (T_0.out.keep k1)
  have IX_1 := hd (IX_0.out.keep k1)
  have XL_1 := hd (XL_0.out.keep k1)
  have XU_1 := hd (XU_0.out.keep k1)
  have IY_1 := hd (IY_0.out.keep k1)
  have YL_1 := hd (YL_0.out.keep k1)
  have YU_1 := hd (YU_0.out.keep k1)
  have KW_1 := hd (KW_0.out.trans k1)
  clear k1 BX_0 BY_0 X1_0 X2_0 X3_0 X4_0 Y1_0 Y2_0 Y3_0 Y4_0 T_0 IX_0 XL_0 XU_0 IY_0 YL_0 YU_0 KW_0
  obtain ⟨BX_c0, BX_c1, BX_c2, BX_c3, BX_c4, BX_c5, -, -, -, -, -, -⟩ := BX_1.out.c6
  obtain ⟨BY_c0, BY_c1, BY_c2, BY_c3, BY_c4, BY_c5, -, -, -, -, -, -⟩ := BY_1.out.c6
  go_wp2_with fail
  refine Calls.mono (Sx.out _ X1_1.out X2_1.out X3_1.out X4_1.out) ?_
  rintro e w2 ⟨rfl, k2⟩
  clear BX_c0 BX_c1 BX_c2 BX_c3 BX_c4 BX_c5 BY_c0 BY_c1 BY_c2 BY_c3 BY_c4 BY_c5
  have BX_2 := hd (BX_1.out.keep k2)
  have BY_2 := hd (BY_1.out.keep k2)
  have X1_2 := hd (X1_1.out.keep k2)
  have X2_2 := hd (X2_1.out.keep k2)
  have X3_2 := hd (X3_1.out.keep k2)
  have X4_2 := hd (X4_1.out.keep k2)
  have Y1_2 := hd (Y1_1.out.keep k2)
  have Y2_2 := hd (Y2_1.out.keep k2)
  have Y3_2 := hd (Y3_1.out.keep k2)
  have Y4_2 := hd (Y4_1.out.keep k2)
  have T_2 := hd (T_1.out.keep k2)
  have IX_2 := hd (IX_1.out.keep k2)
  have XL_2 := hd (XL_1.out.keep k2)
  have XU_2 := hd (XU_1.out.keep k2)
  have IY_2 := hd (IY_1.out.keep k2)
  have YL_2 := hd (YL_1.out.keep k2)
  have YU_2 := hd (YU_1.out.keep k2)
  have KW_2 := hd (KW_1.out.trans k2)
  clear k2 BX_1 BY_1 X1_1 X2_1 X3_1 X4_1 Y1_1 Y2_1 Y3_1 Y4_1 T_1 IX_1 XL_1 XU_1 IY_1 YL_1 YU_1 KW_1
  obtain ⟨BX_c0, BX_c1, BX_c2, BX_c3, BX_c4, BX_c5, -, -, -, -, -, -⟩ := BX_2.out.c6
  obtain ⟨BY_c0, BY_c1, BY_c2, BY_c3, BY_c4, BY_c5, -, -, -, -, -, -⟩ := BY_2.out.c6
  go_wp2_with fail
  refine Calls.mono (Sy.out _ Y1_2.out Y2_2.out Y3_2.out Y4_2.out) ?_
  rintro e w3 ⟨rfl, k3⟩
  clear BX_c0 BX_c1 BX_c2 BX_c3 BX_c4 BX_c5 BY_c0 BY_c1 BY_c2 BY_c3 BY_c4 BY_c5
  have BX_3 := hd (BX_2.out.keep k3)
  have BY_3 := hd (BY_2.out.keep k3)
  have X1_3 := hd (X1_2.out.keep k3)
  have X2_3 := hd (X2_2.out.keep k3)
  have X3_3 := hd (X3_2.out.keep k3)
  have X4_3 := hd (X4_2.out.keep k3)
  have Y1_3 := hd (Y1_2.out.keep k3)
  have Y2_3 := hd (Y2_2.out.keep k3)
  have Y3_3 := hd (Y3_2.out.keep k3)
  have Y4_3 := hd (Y4_2.out.keep k3)
  have T_3 := hd (T_2.out.keep k3)
  have IX_3 := hd (IX_2.out.keep k3)
  have XL_3 := hd (XL_2.out.keep k3)
  have XU_3 := hd (XU_2.out.keep k3)
  have IY_3 := hd (IY_2.out.keep k3)
  have YL_3 := hd (YL_2.out.keep k3)
  have YU_3 := hd (YU_2.out.keep k3)
  have KW_3 := hd (KW_2.out.trans k3)
  clear k3 BX_2 BY_2 X1_2 X2_2 X3_2 X4_2 Y1_2 Y2_2 Y3_2 Y4_2 T_2 IX_2 XL_2 XU_2 IY_2 YL_2 YU_2 KW_2
  clear AW Sx Sy
  clear X1_3 X2_3 X3_3 X4_3 Y1_3 Y2_3 Y3_3 Y4_3 XL_3 XU_3 YL_3 YU_3
  obtain ⟨BX_c0, BX_c1, BX_c2, BX_c3, BX_c4, BX_c5, -, -, -, -, -, -⟩ := BX_3.out.c6
  obtain ⟨BY_c0, BY_c1, BY_c2, BY_c3, BY_c4, BY_c5, -, -, -, -, -, -⟩ := BY_3.out.c6
  go_wp2_with fail
  refine Calls.mono (JN.out _ IX_3.out IY_3.out T_3.out) ?_
  rintro e w4 ⟨uj, rfl, hJ, k4⟩
  clear BX_c0 BX_c1 BX_c2 BX_c3 BX_c4 BX_c5 BY_c0 BY_c1 BY_c2 BY_c3 BY_c4 BY_c5
  have BX_4 := hd (BX_3.out.keep k4)
  have BY_4 := hd (BY_3.out.keep k4)
  have T_4 := hd (T_3.out.keep k4)
  have IX_4 := hd (IX_3.out.keep k4)
  have IY_4 := hd (IY_3.out.keep k4)
  have J0_4 := Lib.hid hJ
  have KW_4 := hd (KW_3.out.trans k4)
  clear k4 BX_3 BY_3 T_3 IX_3 IY_3 hJ KW_3
  obtain ⟨jlb, jla, jln, jlc, jlh, jlm, jlg, jub, jua, jun, juc, juh, jum, jug, rfl, hJ2⟩ := ICr.fv J0_4.out
  have J_4 := Lib.hid hJ2
  clear hJ2 J0_4
  have BX_5 := hd (BX_4.out.keep (Keep.alloc (Keep.refl _) (.cells #[.bool jlb, .slice jla jln jlc, .slice jlh jlm jlg, .bool jub, .slice jua jun juc, .slice juh jum jug] 35)))
  have BY_5 := hd (BY_4.out.keep (Keep.alloc (Keep.refl _) (.cells #[.bool jlb, .slice jla jln jlc, .slice jlh jlm jlg, .bool jub, .slice jua jun juc, .slice juh jum jug] 35)))
  have T_5 := hd (T_4.out.keep (Keep.alloc (Keep.refl _) (.cells #[.bool jlb, .slice jla jln jlc, .slice jlh jlm jlg, .bool jub, .slice jua jun juc, .slice juh jum jug] 35)))
  have IX_5 := hd (IX_4.out.keep (Keep.alloc (Keep.refl _) (.cells #[.bool jlb, .slice jla jln jlc, .slice jlh jlm jlg, .bool jub, .slice jua jun juc, .slice juh jum jug] 35)))
  have IY_5 := hd (IY_4.out.keep (Keep.alloc (Keep.refl _) (.cells #[.bool jlb, .slice jla jln jlc, .slice jlh jlm jlg, .bool jub, .slice jua jun juc, .slice juh jum jug] 35)))
  have J_5 := hd (J_4.out.keep (Keep.alloc (Keep.refl _) (.cells #[.bool jlb, .slice jla jln jlc, .slice jlh jlm jlg, .bool jub, .slice jua jun juc, .slice juh jum jug] 35)))
  have KW_5 := hd (KW_4.out.trans (Keep.alloc (Keep.refl _) (.cells #[.bool jlb, .slice jla jln jlc, .slice jlh jlm jlg, .bool jub, .slice jua jun juc, .slice juh jum jug] 35)))
  have BJ_5 := hd (show Bx w4.heap.size [.bool jlb, .slice jla jln jlc, .slice jlh jlm jlg, .bool jub, .slice jua jun juc, .slice juh jum jug] (w4.alloc (.cells #[.bool jlb, .slice jla jln jlc, .slice jlh jlm jlg, .bool jub, .slice jua jun juc, .slice juh jum jug] 35)) from Bx.new w4 35 (.b _ (.s _ _ _ (.s _ _ _ (.b _ (.s _ _ _ (.s _ _ _ .nil)))))))
  clear BX_4 BY_4 T_4 IX_4 IY_4 J_4 KW_4
  obtain ⟨BX_c0, BX_c1, BX_c2, BX_c3, BX_c4, BX_c5, -, -, -, -, -, -⟩ := BX_5.out.c6
  obtain ⟨BY_c0, BY_c1, BY_c2, BY_c3, BY_c4, BY_c5, -, -, -, -, -, -⟩ := BY_5.out.c6
  obtain ⟨BJ_c0, BJ_c1, BJ_c2, BJ_c3, BJ_c4, BJ_c5, -, -, -, -, -, -⟩ := BJ_5.out.c6
  go_wp2_with fail
  refine Calls.mono (ME.out _ IX_5.out IY_5.out T_5.out) ?_
  rintro e w6 ⟨um, rfl, hM, k6⟩
  clear BX_c0 BX_c1 BX_c2 BX_c3 BX_c4 BX_c5 BY_c0 BY_c1 BY_c2 BY_c3 BY_c4 BY_c5 BJ_c0 BJ_c1 BJ_c2 BJ_c3 BJ_c4 BJ_c5
  have BX_6 := hd (BX_5.out.keep k6)
  have BY_6 := hd (BY_5.out.keep k6)
  have T_6 := hd (T_5.out.keep k6)
  have IX_6 := hd (IX_5.out.keep k6)
  have IY_6 := hd (IY_5.out.keep k6)
  have J_6 := hd (J_5.out.keep k6)
  have BJ_6 := hd (BJ_5.out.keep k6)
  have M0_6 := Lib.hid hM
  have KW_6 := hd (KW_5.out.trans k6)
  clear k6 BX_5 BY_5 T_5 IX_5 IY_5 J_5 BJ_5 hM KW_5
  obtain ⟨mlb, mla, mln, mlc, mlh, mlm, mlg, mub, mua, mun, muc, muh, mum, mug, rfl, hM2⟩ := ICr.fv M0_6.out
  have M_6 := Lib.hid hM2
  clear hM2 M0_6
  have BX_7 := hd (BX_6.out.keep (Keep.alloc (Keep.refl _) (.cells #[.bool mlb, .slice mla mln mlc, .slice mlh mlm mlg, .bool mub, .slice mua mun muc, .slice muh mum mug] 35)))
  have BY_7 := hd (BY_6.out.keep (Keep.alloc (Keep.refl _) (.cells #[.bool mlb, .slice mla mln mlc, .slice mlh mlm mlg, .bool mub, .slice mua mun muc, .slice muh mum mug] 35)))
  have T_7 := hd (T_6.out.keep (Keep.alloc (Keep.refl _) (.cells #[.bool mlb, .slice mla mln mlc, .slice mlh mlm mlg, .bool mub, .slice mua mun muc, .slice muh mum mug] 35)))
  have IX_7 := hd (IX_6.out.keep (Keep.alloc (Keep.refl _) (.cells #[.bool mlb, .slice mla mln mlc, .slice mlh mlm mlg, .bool mub, .slice mua mun muc, .slice muh mum mug] 35)))
  have IY_7 := hd (IY_6.out.keep (Keep.alloc (Keep.refl _) (.cells #[.bool mlb, .slice mla mln mlc, .slice mlh mlm mlg, .bool mub, .slice mua mun muc, .slice muh mum mug] 35)))
  have J_7 := hd (J_6.out.keep (Keep.alloc (Keep.refl _) (.cells #[.bool mlb, .slice mla mln mlc, .slice mlh mlm mlg, .bool mub, .slice mua mun muc, .slice muh mum mug] 35)))
  have BJ_7 := hd (BJ_6.out.keep (Keep.alloc (Keep.refl _) (.cells #[.bool mlb, .slice mla mln mlc, .slice mlh mlm mlg, .bool mub, .slice mua mun muc, .slice muh mum mug] 35)))
  have M_7 := hd (M_6.out.keep (Keep.alloc (Keep.refl _) (.cells #[.bool mlb, .slice mla mln mlc, .slice mlh mlm mlg, .bool mub, .slice mua mun muc, .slice muh mum mug] 35)))
  have KW_7 := hd (KW_6.out.trans (Keep.alloc (Keep.refl _) (.cells #[.bool mlb, .slice mla mln mlc, .slice mlh mlm mlg, .bool mub, .slice mua mun muc, .slice muh mum mug] 35)))
  have BM_7 := hd (show Bx w6.heap.size [.bool mlb, .slice mla mln mlc, .slice mlh mlm mlg, .bool mub, .slice mua mun muc, .slice muh mum mug] (w6.alloc (.cells #[.bool mlb, .slice mla mln mlc, .slice mlh mlm mlg, .bool mub, .slice mua mun muc, .slice muh mum mug] 35)) from Bx.new w6 35 (.b _ (.s _ _ _ (.s _ _ _ (.b _ (.s _ _ _ (.s _ _ _ .nil)))))))
  clear BX_6 BY_6 T_6 IX_6 IY_6 J_6 BJ_6 M_6 KW_6
  obtain ⟨BX_c0, BX_c1, BX_c2, BX_c3, BX_c4, BX_c5, -, -, -, -, -, -⟩ := BX_7.out.c6
  obtain ⟨BY_c0, BY_c1, BY_c2, BY_c3, BY_c4, BY_c5, -, -, -, -, -, -⟩ := BY_7.out.c6
  obtain ⟨BJ_c0, BJ_c1, BJ_c2, BJ_c3, BJ_c4, BJ_c5, -, -, -, -, -, -⟩ := BJ_7.out.c6
  obtain ⟨BM_c0, BM_c1, BM_c2, BM_c3, BM_c4, BM_c5, -, -, -, -, -, -⟩ := BM_7.out.c6
  go_wp2_with fail
  refine Calls.mono (RM.out _ IX_7.out IY_7.out) ?_
  rintro e w8 ⟨un, rfl, hN, k8⟩
  clear BX_c0 BX_c1 BX_c2 BX_c3 BX_c4 BX_c5 BY_c0 BY_c1 BY_c2 BY_c3 BY_c4 BY_c5 BJ_c0 BJ_c1 BJ_c2 BJ_c3 BJ_c4 BJ_c5 BM_c0 BM_c1 BM_c2 BM_c3 BM_c4 BM_c5
  have BX_8 := hd (BX_7.out.keep k8)
  have BY_8 := hd (BY_7.out.keep k8)
  have T_8 := hd (T_7.out.keep k8)
  have IX_8 := hd (IX_7.out.keep k8)
  have IY_8 := hd (IY_7.out.keep k8)
  have J_8 := hd (J_7.out.keep k8)
  have BJ_8 := hd (BJ_7.out.keep k8)
  have M_8 := hd (M_7.out.keep k8)
  have BM_8 := hd (BM_7.out.keep k8)
  have N0_8 := Lib.hid hN
  have KW_8 := hd (KW_7.out.trans k8)
  clear k8 BX_7 BY_7 T_7 IX_7 IY_7 J_7 BJ_7 M_7 BM_7 hN KW_7
  obtain ⟨nlb, nla, nln, nlc, nlh, nlm, nlg, nub, nua, nun, nuc, nuh, num, nug, rfl, hN2⟩ := ICr.fv N0_8.out
  have N_8 := Lib.hid hN2
  clear hN2 N0_8
  have BX_9 := hd (BX_8.out.keep (Keep.alloc (Keep.refl _) (.cells #[.bool nlb, .slice nla nln nlc, .slice nlh nlm nlg, .bool nub, .slice nua nun nuc, .slice nuh num nug] 35)))
  have BY_9 := hd (BY_8.out.keep (Keep.alloc (Keep.refl _) (.cells #[.bool nlb, .slice nla nln nlc, .slice nlh nlm nlg, .bool nub, .slice nua nun nuc, .slice nuh num nug] 35)))
  have T_9 := hd (T_8.out.keep (Keep.alloc (Keep.refl _) (.cells #[.bool nlb, .slice nla nln nlc, .slice nlh nlm nlg, .bool nub, .slice nua nun nuc, .slice nuh num nug] 35)))
  have IX_9 := hd (IX_8.out.keep (Keep.alloc (Keep.refl _) (.cells #[.bool nlb, .slice nla nln nlc, .slice nlh nlm nlg, .bool nub, .slice nua nun nuc, .slice nuh num nug] 35)))
  have IY_9 := hd (IY_8.out.keep (Keep.alloc (Keep.refl _) (.cells #[.bool nlb, .slice nla nln nlc, .slice nlh nlm nlg, .bool nub, .slice nua nun nuc, .slice nuh num nug] 35)))
  have J_9 := hd (J_8.out.keep (Keep.alloc (Keep.refl _) (.cells #[.bool nlb, .slice nla nln nlc, .slice nlh nlm nlg, .bool nub, .slice nua nun nuc, .slice nuh num nug] 35)))
  have BJ_9 := hd (BJ_8.out.keep (Keep.alloc (Keep.refl _) (.cells #[.bool nlb, .slice nla nln nlc, .slice nlh nlm nlg, .bool nub, .slice nua nun nuc, .slice nuh num nug] 35)))
  have M_9 := hd (M_8.out.keep (Keep.alloc (Keep.refl _) (.cells #[.bool nlb, .slice nla nln nlc, .slice nlh nlm nlg, .bool nub, .slice nua nun nuc, .slice nuh num nug] 35)))
  have BM_9 := hd (BM_8.out.keep (Keep.alloc (Keep.refl _) (.cells #[.bool nlb, .slice nla nln nlc, .slice nlh nlm nlg, .bool nub, .slice nua nun nuc, .slice nuh num nug] 35)))
  have N_9 := hd (N_8.out.keep (Keep.alloc (Keep.refl _) (.cells #[.bool nlb, .slice nla nln nlc, .slice nlh nlm nlg, .bool nub, .slice nua nun nuc, .slice nuh num nug] 35)))
  have KW_9 := hd (KW_8.out.trans (Keep.alloc (Keep.refl _) (.cells #[.bool nlb, .slice nla nln nlc, .slice nlh nlm nlg, .bool nub, .slice nua nun nuc, .slice nuh num nug] 35)))
  have BN_9 := hd (show Bx w8.heap.size [.bool nlb, .slice nla nln nlc, .slice nlh nlm nlg, .bool nub, .slice nua nun nuc, .slice nuh num nug] (w8.alloc (.cells #[.bool nlb, .slice nla nln nlc, .slice nlh nlm nlg, .bool nub, .slice nua nun nuc, .slice nuh num nug] 35)) from Bx.new w8 35 (.b _ (.s _ _ _ (.s _ _ _ (.b _ (.s _ _ _ (.s _ _ _ .nil)))))))
  clear BX_8 BY_8 T_8 IX_8 IY_8 J_8 BJ_8 M_8 BM_8 N_8 KW_8
  clear JN ME RM
  clear T_9
  have BX_10 := hd (BX_9.out.keep (keep_drew _))
  clear BX_9
  have BY_10 := hd (BY_9.out.keep (keep_drew _))
  clear BY_9
  have IX_10 := hd (IX_9.out.keep (keep_drew _))
  clear IX_9
  have IY_10 := hd (IY_9.out.keep (keep_drew _))
  clear IY_9
  have J_10 := hd (J_9.out.keep (keep_drew _))
  clear J_9
  have BJ_10 := hd (BJ_9.out.keep (keep_drew _))
  clear BJ_9
  have M_10 := hd (M_9.out.keep (keep_drew _))
  clear M_9
  have BM_10 := hd (BM_9.out.keep (keep_drew _))
  clear BM_9
  have N_10 := hd (N_9.out.keep (keep_drew _))
  clear N_9
  have BN_10 := hd (BN_9.out.keep (keep_drew _))
  clear BN_9
  have KW_10 := hd (KW_9.out.trans (keep_drew _))
  clear KW_9
  obtain ⟨a10c0, a10c1, a10c2, a10c3, a10c4, a10c5⟩ := BJ_10.out.d6
  obtain ⟨b10c0, b10c1, b10c2, b10c3, b10c4, b10c5⟩ := BX_10.out.d6
  obtain ⟨c10c0, c10c1, c10c2, c10c3, c10c4, c10c5⟩ := BY_10.out.d6
  obtain ⟨d10c0, d10c1, d10c2, d10c3, d10c4, d10c5⟩ := BM_10.out.d6
  obtain ⟨e10c0, e10c1, e10c2, e10c3, e10c4, e10c5⟩ := BN_10.out.d6
  go_wp2
  go_region_held3 (fun w' => w'.cell? ⟨w4.heap.size, 0, none⟩ = some (.bool jlb) ∧ w'.cell? ⟨w4.heap.size, 1, none⟩ = some (.slice jla jln jlc) ∧ w'.cell? ⟨w4.heap.size, 2, none⟩ = some (.slice jlh jlm jlg) ∧ w'.cell? ⟨w4.heap.size, 3, none⟩ = some (.bool jub) ∧ w'.cell? ⟨w4.heap.size, 4, none⟩ = some (.slice jua jun juc) ∧ w'.cell? ⟨w4.heap.size, 5, none⟩ = some (.slice juh jum jug) ∧ w'.cell? ⟨w.heap.size, 0, none⟩ = some (.bool xlb) ∧ w'.cell? ⟨w.heap.size, 1, none⟩ = some (.slice xla xln xlc) ∧ w'.cell? ⟨w.heap.size, 2, none⟩ = some (.slice xlh xlm xlg) ∧ w'.cell? ⟨w.heap.size, 3, none⟩ = some (.bool xub) ∧ w'.cell? ⟨w.heap.size, 4, none⟩ = some (.slice xua xun xuc) ∧ w'.cell? ⟨w.heap.size, 5, none⟩ = some (.slice xuh xum xug) ∧ w'.cell? ⟨w.heap.size + 1, 0, none⟩ = some (.bool ylb) ∧ w'.cell? ⟨w.heap.size + 1, 1, none⟩ = some (.slice yla yln ylc) ∧ w'.cell? ⟨w.heap.size + 1, 2, none⟩ = some (.slice ylh ylm ylg) ∧ w'.cell? ⟨w.heap.size + 1, 3, none⟩ = some (.bool yub) ∧ w'.cell? ⟨w.heap.size + 1, 4, none⟩ = some (.slice yua yun yuc) ∧ w'.cell? ⟨w.heap.size + 1, 5, none⟩ = some (.slice yuh yum yug) ∧ w'.cell? ⟨w6.heap.size, 0, none⟩ = some (.bool mlb) ∧ w'.cell? ⟨w6.heap.size, 1, none⟩ = some (.slice mla mln mlc) ∧ w'.cell? ⟨w6.heap.size, 2, none⟩ = some (.slice mlh mlm mlg) ∧ w'.cell? ⟨w6.heap.size, 3, none⟩ = some (.bool mub) ∧ w'.cell? ⟨w6.heap.size, 4, none⟩ = some (.slice mua mun muc) ∧ w'.cell? ⟨w6.heap.size, 5, none⟩ = some (.slice muh mum mug) ∧ w'.cell? ⟨w8.heap.size, 0, none⟩ = some (.bool nlb) ∧ w'.cell? ⟨w8.heap.size, 1, none⟩ = some (.slice nla nln nlc) ∧ w'.cell? ⟨w8.heap.size, 2, none⟩ = some (.slice nlh nlm nlg) ∧ w'.cell? ⟨w8.heap.size, 3, none⟩ = some (.bool nub) ∧ w'.cell? ⟨w8.heap.size, 4, none⟩ = some (.slice nua nun nuc) ∧ w'.cell? ⟨w8.heap.size, 5, none⟩ = some (.slice nuh num nug)) (first | with_reducible exact ⟨a17c0, a17c1, a17c2, a17c3, a17c4, a17c5, b17c0, b17c1, b17c2, b17c3, b17c4, b17c5, c17c0, c17c1, c17c2, c17c3, c17c4, c17c5, d17c0, d17c1, d17c2, d17c3, d17c4, d17c5, e17c0, e17c1, e17c2, e17c3, e17c4, e17c5⟩ | with_reducible exact ⟨a16c0, a16c1, a16c2, a16c3, a16c4, a16c5, b16c0, b16c1, b16c2, b16c3, b16c4, b16c5, c16c0, c16c1, c16c2, c16c3, c16c4, c16c5, d16c0, d16c1, d16c2, d16c3, d16c4, d16c5, e16c0, e16c1, e16c2, e16c3, e16c4, e16c5⟩ | with_reducible exact ⟨a15c0, a15c1, a15c2, a15c3, a15c4, a15c5, b15c0, b15c1, b15c2, b15c3, b15c4, b15c5, c15c0, c15c1, c15c2, c15c3, c15c4, c15c5, d15c0, d15c1, d15c2, d15c3, d15c4, d15c5, e15c0, e15c1, e15c2, e15c3, e15c4, e15c5⟩ | with_reducible exact ⟨a14c0, a14c1, a14c2, a14c3, a14c4, a14c5, b14c0, b14c1, b14c2, b14c3, b14c4, b14c5, c14c0, c14c1, c14c2, c14c3, c14c4, c14c5, d14c0, d14c1, d14c2, d14c3, d14c4, d14c5, e14c0, e14c1, e14c2, e14c3, e14c4, e14c5⟩ | with_reducible exact ⟨a13c0, a13c1, a13c2, a13c3, a13c4, a13c5, b13c0, b13c1, b13c2, b13c3, b13c4, b13c5, c13c0, c13c1, c13c2, c13c3, c13c4, c13c5, d13c0, d13c1, d13c2, d13c3, d13c4, d13c5, e13c0, e13c1, e13c2, e13c3, e13c4, e13c5⟩ | with_reducible exact ⟨a12c0, a12c1, a12c2, a12c3, a12c4, a12c5, b12c0, b12c1, b12c2, b12c3, b12c4, b12c5, c12c0, c12c1, c12c2, c12c3, c12c4, c12c5, d12c0, d12c1, d12c2, d12c3, d12c4, d12c5, e12c0, e12c1, e12c2, e12c3, e12c4, e12c5⟩ | with_reducible exact ⟨a11c0, a11c1, a11c2, a11c3, a11c4, a11c5, b11c0, b11c1, b11c2, b11c3, b11c4, b11c5, c11c0, c11c1, c11c2, c11c3, c11c4, c11c5, d11c0, d11c1, d11c2, d11c3, d11c4, d11c5, e11c0, e11c1, e11c2, e11c3, e11c4, e11c5⟩ | with_reducible exact ⟨a10c0, a10c1, a10c2, a10c3, a10c4, a10c5, b10c0, b10c1, b10c2, b10c3, b10c4, b10c5, c10c0, c10c1, c10c2, c10c3, c10c4, c10c5, d10c0, d10c1, d10c2, d10c3, d10c4, d10c5, e10c0, e10c1, e10c2, e10c3, e10c4, e10c5⟩ | go_keep)
    (first
      | (go_at_call 38; ((with_reducible refine Calls.mono (W2.out _ _ IY_16.out J_16.out) ?_); rintro e w17 ⟨rfl, k17⟩; have BX_17 := hd (BX_16.out.keep k17); have BY_17 := hd (BY_16.out.keep k17); have IX_17 := hd (IX_16.out.keep k17); have IY_17 := hd (IY_16.out.keep k17); have J_17 := hd (J_16.out.keep k17); have BJ_17 := hd (BJ_16.out.keep k17); have M_17 := hd (M_16.out.keep k17); have BM_17 := hd (BM_16.out.keep k17); have N_17 := hd (N_16.out.keep k17); have BN_17 := hd (BN_16.out.keep k17); have U_17 := hd (U_16.out.keep k17); have KW_17 := hd (KW_16.out.trans k17); obtain ⟨a17c0, a17c1, a17c2, a17c3, a17c4, a17c5⟩ := BJ_17.out.d6; obtain ⟨b17c0, b17c1, b17c2, b17c3, b17c4, b17c5⟩ := BX_17.out.d6; obtain ⟨c17c0, c17c1, c17c2, c17c3, c17c4, c17c5⟩ := BY_17.out.d6; obtain ⟨d17c0, d17c1, d17c2, d17c3, d17c4, d17c5⟩ := BM_17.out.d6; obtain ⟨e17c0, e17c1, e17c2, e17c3, e17c4, e17c5⟩ := BN_17.out.d6; clear k17))
      | (go_at_call 38; ((with_reducible refine Calls.mono (W1.out _ _ IX_15.out J_15.out) ?_); rintro e w16 ⟨rfl, k16⟩; have BX_16 := hd (BX_15.out.keep k16); have BY_16 := hd (BY_15.out.keep k16); have IX_16 := hd (IX_15.out.keep k16); have IY_16 := hd (IY_15.out.keep k16); have J_16 := hd (J_15.out.keep k16); have BJ_16 := hd (BJ_15.out.keep k16); have M_16 := hd (M_15.out.keep k16); have BM_16 := hd (BM_15.out.keep k16); have N_16 := hd (N_15.out.keep k16); have BN_16 := hd (BN_15.out.keep k16); have U_16 := hd (U_15.out.keep k16); have KW_16 := hd (KW_15.out.trans k16); obtain ⟨a16c0, a16c1, a16c2, a16c3, a16c4, a16c5⟩ := BJ_16.out.d6; obtain ⟨b16c0, b16c1, b16c2, b16c3, b16c4, b16c5⟩ := BX_16.out.d6; obtain ⟨c16c0, c16c1, c16c2, c16c3, c16c4, c16c5⟩ := BY_16.out.d6; obtain ⟨d16c0, d16c1, d16c2, d16c3, d16c4, d16c5⟩ := BM_16.out.d6; obtain ⟨e16c0, e16c1, e16c2, e16c3, e16c4, e16c5⟩ := BN_16.out.d6; clear k16))
      | (go_at_call 39; ((with_reducible refine Calls.mono (RW.out _ IX_14.out IY_14.out) ?_); rintro e w15 ⟨rfl, k15⟩; have BX_15 := hd (BX_14.out.keep k15); have BY_15 := hd (BY_14.out.keep k15); have IX_15 := hd (IX_14.out.keep k15); have IY_15 := hd (IY_14.out.keep k15); have J_15 := hd (J_14.out.keep k15); have BJ_15 := hd (BJ_14.out.keep k15); have M_15 := hd (M_14.out.keep k15); have BM_15 := hd (BM_14.out.keep k15); have N_15 := hd (N_14.out.keep k15); have BN_15 := hd (BN_14.out.keep k15); have U_15 := hd (U_14.out.keep k15); have KW_15 := hd (KW_14.out.trans k15); obtain ⟨a15c0, a15c1, a15c2, a15c3, a15c4, a15c5⟩ := BJ_15.out.d6; obtain ⟨b15c0, b15c1, b15c2, b15c3, b15c4, b15c5⟩ := BX_15.out.d6; obtain ⟨c15c0, c15c1, c15c2, c15c3, c15c4, c15c5⟩ := BY_15.out.d6; obtain ⟨d15c0, d15c1, d15c2, d15c3, d15c4, d15c5⟩ := BM_15.out.d6; obtain ⟨e15c0, e15c1, e15c2, e15c3, e15c4, e15c5⟩ := BN_15.out.d6; clear k15))
      | (go_at_call 38; ((with_reducible refine Calls.mono (WI.out _ IX_13.out IY_13.out) ?_); rintro e w14 ⟨rfl, k14⟩; have BX_14 := hd (BX_13.out.keep k14); have BY_14 := hd (BY_13.out.keep k14); have IX_14 := hd (IX_13.out.keep k14); have IY_14 := hd (IY_13.out.keep k14); have J_14 := hd (J_13.out.keep k14); have BJ_14 := hd (BJ_13.out.keep k14); have M_14 := hd (M_13.out.keep k14); have BM_14 := hd (BM_13.out.keep k14); have N_14 := hd (N_13.out.keep k14); have BN_14 := hd (BN_13.out.keep k14); have U_14 := hd (U_13.out.keep k14); have KW_14 := hd (KW_13.out.trans k14); obtain ⟨a14c0, a14c1, a14c2, a14c3, a14c4, a14c5⟩ := BJ_14.out.d6; obtain ⟨b14c0, b14c1, b14c2, b14c3, b14c4, b14c5⟩ := BX_14.out.d6; obtain ⟨c14c0, c14c1, c14c2, c14c3, c14c4, c14c5⟩ := BY_14.out.d6; obtain ⟨d14c0, d14c1, d14c2, d14c3, d14c4, d14c5⟩ := BM_14.out.d6; obtain ⟨e14c0, e14c1, e14c2, e14c3, e14c4, e14c5⟩ := BN_14.out.d6; clear k14))
      | (go_at_call 20; ((with_reducible refine Calls.mono (isame_t M_12.out N_12.out) ?_); rintro e w13 ⟨rfl, k13⟩; have BX_13 := hd (BX_12.out.keep k13); have BY_13 := hd (BY_12.out.keep k13); have IX_13 := hd (IX_12.out.keep k13); have IY_13 := hd (IY_12.out.keep k13); have J_13 := hd (J_12.out.keep k13); have BJ_13 := hd (BJ_12.out.keep k13); have M_13 := hd (M_12.out.keep k13); have BM_13 := hd (BM_12.out.keep k13); have N_13 := hd (N_12.out.keep k13); have BN_13 := hd (BN_12.out.keep k13); have U_13 := hd (U_12.out.keep k13); have KW_13 := hd (KW_12.out.trans k13); obtain ⟨a13c0, a13c1, a13c2, a13c3, a13c4, a13c5⟩ := BJ_13.out.d6; obtain ⟨b13c0, b13c1, b13c2, b13c3, b13c4, b13c5⟩ := BX_13.out.d6; obtain ⟨c13c0, c13c1, c13c2, c13c3, c13c4, c13c5⟩ := BY_13.out.d6; obtain ⟨d13c0, d13c1, d13c2, d13c3, d13c4, d13c5⟩ := BM_13.out.d6; obtain ⟨e13c0, e13c1, e13c2, e13c3, e13c4, e13c5⟩ := BN_13.out.d6; clear k13))
      | (go_at_call 20; ((with_reducible refine Calls.mono (isame_t J_11.out U_11.out) ?_); rintro e w12 ⟨rfl, k12⟩; have BX_12 := hd (BX_11.out.keep k12); have BY_12 := hd (BY_11.out.keep k12); have IX_12 := hd (IX_11.out.keep k12); have IY_12 := hd (IY_11.out.keep k12); have J_12 := hd (J_11.out.keep k12); have BJ_12 := hd (BJ_11.out.keep k12); have M_12 := hd (M_11.out.keep k12); have BM_12 := hd (BM_11.out.keep k12); have N_12 := hd (N_11.out.keep k12); have BN_12 := hd (BN_11.out.keep k12); have U_12 := hd (U_11.out.keep k12); have KW_12 := hd (KW_11.out.trans k12); obtain ⟨a12c0, a12c1, a12c2, a12c3, a12c4, a12c5⟩ := BJ_12.out.d6; obtain ⟨b12c0, b12c1, b12c2, b12c3, b12c4, b12c5⟩ := BX_12.out.d6; obtain ⟨c12c0, c12c1, c12c2, c12c3, c12c4, c12c5⟩ := BY_12.out.d6; obtain ⟨d12c0, d12c1, d12c2, d12c3, d12c4, d12c5⟩ := BM_12.out.d6; obtain ⟨e12c0, e12c1, e12c2, e12c3, e12c4, e12c5⟩ := BN_12.out.d6; clear k12))
      | (go_at_call 37; ((with_reducible refine Calls.mono (RJ.out _ IX_10.out IY_10.out) ?_); rintro e w11 ⟨a1, rfl, hU, k11⟩; have BX_11 := hd (BX_10.out.keep k11); have BY_11 := hd (BY_10.out.keep k11); have IX_11 := hd (IX_10.out.keep k11); have IY_11 := hd (IY_10.out.keep k11); have J_11 := hd (J_10.out.keep k11); have BJ_11 := hd (BJ_10.out.keep k11); have M_11 := hd (M_10.out.keep k11); have BM_11 := hd (BM_10.out.keep k11); have N_11 := hd (N_10.out.keep k11); have BN_11 := hd (BN_10.out.keep k11); have U_11 := Lib.hid hU; clear hU; have KW_11 := hd (KW_10.out.trans k11); obtain ⟨a11c0, a11c1, a11c2, a11c3, a11c4, a11c5⟩ := BJ_11.out.d6; obtain ⟨b11c0, b11c1, b11c2, b11c3, b11c4, b11c5⟩ := BX_11.out.d6; obtain ⟨c11c0, c11c1, c11c2, c11c3, c11c4, c11c5⟩ := BY_11.out.d6; obtain ⟨d11c0, d11c1, d11c2, d11c3, d11c4, d11c5⟩ := BM_11.out.d6; obtain ⟨e11c0, e11c1, e11c2, e11c3, e11c4, e11c5⟩ := BN_11.out.d6; clear k11)))
  clear a17c0 a17c1 a17c2 a17c3 a17c4 a17c5 b17c0 b17c1 b17c2 b17c3 b17c4 b17c5 c17c0 c17c1 c17c2 c17c3 c17c4 c17c5 d17c0 d17c1 d17c2 d17c3 d17c4 d17c5 e17c0 e17c1 e17c2 e17c3 e17c4 e17c5 a16c0 a16c1 a16c2 a16c3 a16c4 a16c5 b16c0 b16c1 b16c2 b16c3 b16c4 b16c5 c16c0 c16c1 c16c2 c16c3 c16c4 c16c5 d16c0 d16c1 d16c2 d16c3 d16c4 d16c5 e16c0 e16c1 e16c2 e16c3 e16c4 e16c5 a15c0 a15c1 a15c2 a15c3 a15c4 a15c5 b15c0 b15c1 b15c2 b15c3 b15c4 b15c5 c15c0 c15c1 c15c2 c15c3 c15c4 c15c5 d15c0 d15c1 d15c2 d15c3 d15c4 d15c5 e15c0 e15c1 e15c2 e15c3 e15c4 e15c5 a14c0 a14c1 a14c2 a14c3 a14c4 a14c5 b14c0 b14c1 b14c2 b14c3 b14c4 b14c5 c14c0 c14c1 c14c2 c14c3 c14c4 c14c5 d14c0 d14c1 d14c2 d14c3 d14c4 d14c5 e14c0 e14c1 e14c2 e14c3 e14c4 e14c5 a13c0 a13c1 a13c2 a13c3 a13c4 a13c5 b13c0 b13c1 b13c2 b13c3 b13c4 b13c5 c13c0 c13c1 c13c2 c13c3 c13c4 c13c5 d13c0 d13c1 d13c2 d13c3 d13c4 d13c5 e13c0 e13c1 e13c2 e13c3 e13c4 e13c5 a12c0 a12c1 a12c2 a12c3 a12c4 a12c5 b12c0 b12c1 b12c2 b12c3 b12c4 b12c5 c12c0 c12c1 c12c2 c12c3 c12c4 c12c5 d12c0 d12c1 d12c2 d12c3 d12c4 d12c5 e12c0 e12c1 e12c2 e12c3 e12c4 e12c5 a11c0 a11c1 a11c2 a11c3 a11c4 a11c5 b11c0 b11c1 b11c2 b11c3 b11c4 b11c5 c11c0 c11c1 c11c2 c11c3 c11c4 c11c5 d11c0 d11c1 d11c2 d11c3 d11c4 d11c5 e11c0 e11c1 e11c2 e11c3 e11c4 e11c5 a10c0 a10c1 a10c2 a10c3 a10c4 a10c5 b10c0 b10c1 b10c2 b10c3 b10c4 b10c5 c10c0 c10c1 c10c2 c10c3 c10c4 c10c5 d10c0 d10c1 d10c2 d10c3 d10c4 d10c5 e10c0 e10c1 e10c2 e10c3 e10c4 e10c5
  clear RJ WI RW W1 W2
  clear U_17 N_17 BN_17
  obtain ⟨BX_c0, BX_c1, BX_c2, BX_c3, BX_c4, BX_c5, -, -, -, -, -, -⟩ := BX_17.out.c6
  obtain ⟨BY_c0, BY_c1, BY_c2, BY_c3, BY_c4, BY_c5, -, -, -, -, -, -⟩ := BY_17.out.c6
  obtain ⟨BJ_c0, BJ_c1, BJ_c2, BJ_c3, BJ_c4, BJ_c5, -, -, -, -, -, -⟩ := BJ_17.out.c6
  obtain ⟨BM_c0, BM_c1, BM_c2, BM_c3, BM_c4, BM_c5, -, -, -, -, -, -⟩ := BM_17.out.c6
  go_wp2_with fail
  refine Calls.mono (AT.out _ _ J_17.out) ?_
  rintro e w18 ⟨ux, rfl, hX, k18⟩
  clear BX_c0 BX_c1 BX_c2 BX_c3 BX_c4 BX_c5 BY_c0 BY_c1 BY_c2 BY_c3 BY_c4 BY_c5 BJ_c0 BJ_c1 BJ_c2 BJ_c3 BJ_c4 BJ_c5 BM_c0 BM_c1 BM_c2 BM_c3 BM_c4 BM_c5
  have BX_18 := hd (BX_17.out.keep k18)
  have BY_18 := hd (BY_17.out.keep k18)
  have IX_18 := hd (IX_17.out.keep k18)
  have IY_18 := hd (IY_17.out.keep k18)
  have M_18 := hd (M_17.out.keep k18)
  have BM_18 := hd (BM_17.out.keep k18)
  have X0_18 := Lib.hid hX
  have KW_18 := hd (KW_17.out.trans k18)
  clear k18 J_17 BJ_17 BX_17 BY_17 IX_17 IY_17 M_17 BM_17 hX KW_17
  obtain ⟨fb, fa, fn, fc, fh, fm, fg, rfl, hX2⟩ := Cr.fv X0_18.out
  have XX_18 := Lib.hid hX2
  clear hX2 X0_18
  have BX_19 := hd (BX_18.out.keep (Keep.alloc (Keep.refl _) (.cells #[.bool fb, .slice fa fn fc, .slice fh fm fg] 32)))
  have BY_19 := hd (BY_18.out.keep (Keep.alloc (Keep.refl _) (.cells #[.bool fb, .slice fa fn fc, .slice fh fm fg] 32)))
  have IX_19 := hd (IX_18.out.keep (Keep.alloc (Keep.refl _) (.cells #[.bool fb, .slice fa fn fc, .slice fh fm fg] 32)))
  have IY_19 := hd (IY_18.out.keep (Keep.alloc (Keep.refl _) (.cells #[.bool fb, .slice fa fn fc, .slice fh fm fg] 32)))
  have M_19 := hd (M_18.out.keep (Keep.alloc (Keep.refl _) (.cells #[.bool fb, .slice fa fn fc, .slice fh fm fg] 32)))
  have BM_19 := hd (BM_18.out.keep (Keep.alloc (Keep.refl _) (.cells #[.bool fb, .slice fa fn fc, .slice fh fm fg] 32)))
  have XX_19 := hd (XX_18.out.keep (Keep.alloc (Keep.refl _) (.cells #[.bool fb, .slice fa fn fc, .slice fh fm fg] 32)))
  have KW_19 := hd (KW_18.out.trans (Keep.alloc (Keep.refl _) (.cells #[.bool fb, .slice fa fn fc, .slice fh fm fg] 32)))
  have BF_19 := hd (show Bx w18.heap.size [.bool fb, .slice fa fn fc, .slice fh fm fg] (w18.alloc (.cells #[.bool fb, .slice fa fn fc, .slice fh fm fg] 32)) from Bx.new w18 32 (.b _ (.s _ _ _ (.s _ _ _ .nil))))
  clear BX_18 BY_18 IX_18 IY_18 M_18 BM_18 XX_18 KW_18
  cases ca
  · have BX_20 := hd (BX_19.out.keep (keep_drew _))
    clear BX_19
    have BY_20 := hd (BY_19.out.keep (keep_drew _))
    clear BY_19
    have IX_20 := hd (IX_19.out.keep (keep_drew _))
    clear IX_19
    have IY_20 := hd (IY_19.out.keep (keep_drew _))
    clear IY_19
    have M_20 := hd (M_19.out.keep (keep_drew _))
    clear M_19
    have BM_20 := hd (BM_19.out.keep (keep_drew _))
    clear BM_19
    have XX_20 := hd (XX_19.out.keep (keep_drew _))
    clear XX_19
    have BF_20 := hd (BF_19.out.keep (keep_drew _))
    clear BF_19
    have KW_20 := hd (KW_19.out.trans (keep_drew _))
    clear KW_19
    obtain ⟨a20c0, a20c1, a20c2, a20c3, a20c4, a20c5⟩ := BM_20.out.d6
    obtain ⟨b20c0, b20c1, b20c2, b20c3, b20c4, b20c5⟩ := BX_20.out.d6
    obtain ⟨c20c0, c20c1, c20c2, c20c3, c20c4, c20c5⟩ := BY_20.out.d6
    obtain ⟨d20c0, d20c1, d20c2⟩ := BF_20.out.d3
    go_wp2
    refine wp_region_held_drew (S := fun w' => w'.cell? ⟨w6.heap.size, 0, none⟩ = some (.bool mlb) ∧ w'.cell? ⟨w6.heap.size, 1, none⟩ = some (.slice mla mln mlc) ∧ w'.cell? ⟨w6.heap.size, 2, none⟩ = some (.slice mlh mlm mlg) ∧ w'.cell? ⟨w6.heap.size, 3, none⟩ = some (.bool mub) ∧ w'.cell? ⟨w6.heap.size, 4, none⟩ = some (.slice mua mun muc) ∧ w'.cell? ⟨w6.heap.size, 5, none⟩ = some (.slice muh mum mug) ∧ w'.cell? ⟨w.heap.size, 0, none⟩ = some (.bool xlb) ∧ w'.cell? ⟨w.heap.size, 1, none⟩ = some (.slice xla xln xlc) ∧ w'.cell? ⟨w.heap.size, 2, none⟩ = some (.slice xlh xlm xlg) ∧ w'.cell? ⟨w.heap.size, 3, none⟩ = some (.bool xub) ∧ w'.cell? ⟨w.heap.size, 4, none⟩ = some (.slice xua xun xuc) ∧ w'.cell? ⟨w.heap.size, 5, none⟩ = some (.slice xuh xum xug) ∧ w'.cell? ⟨w.heap.size + 1, 0, none⟩ = some (.bool ylb) ∧ w'.cell? ⟨w.heap.size + 1, 1, none⟩ = some (.slice yla yln ylc) ∧ w'.cell? ⟨w.heap.size + 1, 2, none⟩ = some (.slice ylh ylm ylg) ∧ w'.cell? ⟨w.heap.size + 1, 3, none⟩ = some (.bool yub) ∧ w'.cell? ⟨w.heap.size + 1, 4, none⟩ = some (.slice yua yun yuc) ∧ w'.cell? ⟨w.heap.size + 1, 5, none⟩ = some (.slice yuh yum yug) ∧ w'.cell? ⟨w18.heap.size, 0, none⟩ = some (.bool fb) ∧ w'.cell? ⟨w18.heap.size, 1, none⟩ = some (.slice fa fn fc) ∧ w'.cell? ⟨w18.heap.size, 2, none⟩ = some (.slice fh fm fg)) (by kernel_rfl) ⟨a20c0, a20c1, a20c2, a20c3, a20c4, a20c5, b20c0, b20c1, b20c2, b20c3, b20c4, b20c5, c20c0, c20c1, c20c2, c20c3, c20c4, c20c5, d20c0, d20c1, d20c2⟩ (fun hHeld => ?_)
    refine wpAnyH_take (i := 0) (oi := _) (v := ?vA0) rfl (by kernel_rfl) (by kernel_rfl) (by kernel_rfl) (fun _ _ _ h => h) (Or.inl ⟨by rfl, ?hyA0⟩) (by assumption) ?restA0
    case hyA0 => (intro wq hSw; (try dsimp only at hSw); first | (go_simp; done) | (go_simp; with_reducible rfl))
    try simp only [Act.put, List.getElem_toArray, List.getElem_cons_succ, List.getElem_cons_zero, List.setIfInBounds_toArray, List.set_cons_zero, List.set_cons_succ]
    refine wpAnyH_take (i := 1) (oi := _) (v := ?vA1) rfl (by kernel_rfl) (by kernel_rfl) (by kernel_rfl) (fun _ _ _ h => h) (Or.inl ⟨by rfl, ?hyA1⟩) (by assumption) ?restA1
    case hyA1 => (intro wq hSw; (try dsimp only at hSw); first | (go_simp; done) | (go_simp; with_reducible rfl))
    try simp only [Act.put, List.getElem_toArray, List.getElem_cons_succ, List.getElem_cons_zero, List.setIfInBounds_toArray, List.set_cons_zero, List.set_cons_succ]
    refine wpAnyH_take (i := 2) (oi := _) (v := ?vA2) rfl (by kernel_rfl) (by kernel_rfl) (by kernel_rfl) (fun _ _ _ h => h) (Or.inl ⟨by rfl, ?hyA2⟩) (by assumption) ?restA2
    case hyA2 => (intro wq hSw; (try dsimp only at hSw); first | (go_simp; done) | (go_simp; with_reducible rfl))
    try simp only [Act.put, List.getElem_toArray, List.getElem_cons_succ, List.getElem_cons_zero, List.setIfInBounds_toArray, List.set_cons_zero, List.set_cons_succ]
    refine wpAnyH_take (i := 3) (oi := _) (v := undef) rfl (by kernel_rfl) (by kernel_rfl) (by kernel_rfl) (fun _ _ _ h => h) (Or.inr ⟨by rfl, rfl⟩) (by assumption) ?_
    try simp only [Act.put, List.setIfInBounds_toArray, List.set_cons_zero, List.set_cons_succ]
    refine wpAnyH_take (i := 4) (oi := _) (v := undef) rfl (by kernel_rfl) (by kernel_rfl) (by kernel_rfl) (fun _ _ _ h => h) (Or.inr ⟨by rfl, rfl⟩) (by assumption) ?_
    try simp only [Act.put, List.setIfInBounds_toArray, List.set_cons_zero, List.set_cons_succ]
    refine wpAnyH_take (i := 5) (oi := _) (v := undef) rfl (by kernel_rfl) (by kernel_rfl) (by kernel_rfl) (fun _ _ _ h => h) (Or.inr ⟨by rfl, rfl⟩) (by assumption) ?_
    try simp only [Act.put, List.setIfInBounds_toArray, List.set_cons_zero, List.set_cons_succ]
    refine wpAnyH_take (i := 6) (oi := _) (v := ?vA6) rfl (by kernel_rfl) (by kernel_rfl) (by kernel_rfl) (fun _ _ _ h => h) (Or.inl ⟨by rfl, ?hyA6⟩) (by assumption) ?restA6
    case hyA6 => (intro wq hSw; (try dsimp only at hSw); first | (go_simp; done) | (go_simp; with_reducible rfl))
    try simp only [Act.put, List.getElem_toArray, List.getElem_cons_succ, List.getElem_cons_zero, List.setIfInBounds_toArray, List.set_cons_zero, List.set_cons_succ]
    refine wpAnyH_take (i := 7) (oi := _) (v := ?vA7) rfl (by kernel_rfl) (by kernel_rfl) (by kernel_rfl) (fun _ _ _ h => h) (Or.inl ⟨by rfl, ?hyA7⟩) (by assumption) ?restA7
    case hyA7 => (intro wq hSw; (try dsimp only at hSw); first | (go_simp; done) | (go_simp; with_reducible rfl))
    try simp only [Act.put, List.getElem_toArray, List.getElem_cons_succ, List.getElem_cons_zero, List.setIfInBounds_toArray, List.set_cons_zero, List.set_cons_succ]
    refine wpAnyH_take (i := 8) (oi := _) (v := ?vA8) rfl (by kernel_rfl) (by kernel_rfl) (by kernel_rfl) (fun _ _ _ h => h) (Or.inl ⟨by rfl, ?hyA8⟩) (by assumption) ?restA8
    case hyA8 => (intro wq hSw; (try dsimp only at hSw); first | (go_simp; done) | (go_simp; with_reducible rfl))
    try simp only [Act.put, List.getElem_toArray, List.getElem_cons_succ, List.getElem_cons_zero, List.setIfInBounds_toArray, List.set_cons_zero, List.set_cons_succ]
    refine wpAnyH_ready (rs := [9]) (by kernel_rfl) (by simp) ?_
    refine AllReadyH.cons (o := _) rfl (fun K hK => ?_) AllReadyH.nil
    go_simp
    refine Calls.mono (CA.out _ _ IX_20.out XX_20.out) ?_
    rintro e w21 ⟨rfl, k21⟩
    have BX_21 := hd (BX_20.out.keep k21)
    have BY_21 := hd (BY_20.out.keep k21)
    have IX_21 := hd (IX_20.out.keep k21)
    have IY_21 := hd (IY_20.out.keep k21)
    have M_21 := hd (M_20.out.keep k21)
    have BM_21 := hd (BM_20.out.keep k21)
    have XX_21 := hd (XX_20.out.keep k21)
    have BF_21 := hd (BF_20.out.keep k21)
    have KW_21 := hd (KW_20.out.trans k21)
    clear k21 BX_20 BY_20 IX_20 IY_20 M_20 BM_20 XX_20 BF_20 KW_20
    obtain ⟨a21c0, a21c1, a21c2, a21c3, a21c4, a21c5⟩ := BM_21.out.d6
    obtain ⟨b21c0, b21c1, b21c2, b21c3, b21c4, b21c5⟩ := BX_21.out.d6
    obtain ⟨c21c0, c21c1, c21c2, c21c3, c21c4, c21c5⟩ := BY_21.out.d6
    obtain ⟨d21c0, d21c1, d21c2⟩ := BF_21.out.d3
    go_wp2_with fail
    refine hK.out _ _ ⟨a21c0, a21c1, a21c2, a21c3, a21c4, a21c5, b21c0, b21c1, b21c2, b21c3, b21c4, b21c5, c21c0, c21c1, c21c2, c21c3, c21c4, c21c5, d21c0, d21c1, d21c2⟩ (fun hHeld2 => ?_)
    clear hK K hHeld a20c0 a20c1 a20c2 a20c3 a20c4 a20c5 b20c0 b20c1 b20c2 b20c3 b20c4 b20c5 c20c0 c20c1 c20c2 c20c3 c20c4 c20c5 d20c0 d20c1 d20c2
    have hHeld := hHeld2
    clear hHeld2
    try simp only [Act.put, List.setIfInBounds_toArray, List.set_cons_zero, List.set_cons_succ]
    refine wpAnyH_take (i := 10) (oi := _) (v := ?vA10) rfl (by kernel_rfl) (by kernel_rfl) (by kernel_rfl) (fun _ _ _ h => h) (Or.inl ⟨by rfl, ?hyA10⟩) (by assumption) ?restA10
    case hyA10 => (intro wq hSw; (try dsimp only at hSw); first | (go_simp; done) | (go_simp; with_reducible rfl))
    try simp only [Act.put, List.getElem_toArray, List.getElem_cons_succ, List.getElem_cons_zero, List.setIfInBounds_toArray, List.set_cons_zero, List.set_cons_succ]
    refine wpAnyH_take (i := 11) (oi := _) (v := undef) rfl (by kernel_rfl) (by kernel_rfl) (by kernel_rfl) (fun _ _ _ h => h) (Or.inr ⟨by rfl, rfl⟩) (by assumption) ?_
    try simp only [Act.put, List.setIfInBounds_toArray, List.set_cons_zero, List.set_cons_succ]
    refine wpAnyH_take (i := 12) (oi := _) (v := undef) rfl (by kernel_rfl) (by kernel_rfl) (by kernel_rfl) (fun _ _ _ h => h) (Or.inr ⟨by rfl, rfl⟩) (by assumption) ?_
    try simp only [Act.put, List.setIfInBounds_toArray, List.set_cons_zero, List.set_cons_succ]
    refine wpAnyH_take (i := 13) (oi := _) (v := undef) rfl (by kernel_rfl) (by kernel_rfl) (by kernel_rfl) (fun _ _ _ h => h) (Or.inr ⟨by rfl, rfl⟩) (by assumption) ?_
    try simp only [Act.put, List.setIfInBounds_toArray, List.set_cons_zero, List.set_cons_succ]
    refine wpAnyH_take (i := 14) (oi := _) (v := ?vA14) rfl (by kernel_rfl) (by kernel_rfl) (by kernel_rfl) (fun _ _ _ h => h) (Or.inl ⟨by rfl, ?hyA14⟩) (by assumption) ?restA14
    case hyA14 => (intro wq hSw; (try dsimp only at hSw); first | (go_simp; done) | (go_simp; with_reducible rfl))
    try simp only [Act.put, List.getElem_toArray, List.getElem_cons_succ, List.getElem_cons_zero, List.setIfInBounds_toArray, List.set_cons_zero, List.set_cons_succ]
    refine wpAnyH_take (i := 15) (oi := _) (v := ?vA15) rfl (by kernel_rfl) (by kernel_rfl) (by kernel_rfl) (fun _ _ _ h => h) (Or.inl ⟨by rfl, ?hyA15⟩) (by assumption) ?restA15
    case hyA15 => (intro wq hSw; (try dsimp only at hSw); first | (go_simp; done) | (go_simp; with_reducible rfl))
    try simp only [Act.put, List.getElem_toArray, List.getElem_cons_succ, List.getElem_cons_zero, List.setIfInBounds_toArray, List.set_cons_zero, List.set_cons_succ]
    refine wpAnyH_take (i := 16) (oi := _) (v := ?vA16) rfl (by kernel_rfl) (by kernel_rfl) (by kernel_rfl) (fun _ _ _ h => h) (Or.inl ⟨by rfl, ?hyA16⟩) (by assumption) ?restA16
    case hyA16 => (intro wq hSw; (try dsimp only at hSw); first | (go_simp; done) | (go_simp; with_reducible rfl))
    try simp only [Act.put, List.getElem_toArray, List.getElem_cons_succ, List.getElem_cons_zero, List.setIfInBounds_toArray, List.set_cons_zero, List.set_cons_succ]
    try simp only [Act.put, List.getElem_toArray, List.getElem_cons_succ, List.getElem_cons_zero, List.setIfInBounds_toArray, List.set_cons_zero, List.set_cons_succ]
    refine wpAnyH_done (by kernel_rfl) ?_ _
    try go_simp
    clear hHeld a21c0 a21c1 a21c2 a21c3 a21c4 a21c5 b21c0 b21c1 b21c2 b21c3 b21c4 b21c5 c21c0 c21c1 c21c2 c21c3 c21c4 c21c5 d21c0 d21c1 d21c2
    all_goals
      go_wp2_with fail
      go_ret
      refine ⟨?_, KW_21.out⟩
      first | rfl | (subst_vars; rw [List.getElem?_set_self (by rw [List.length_set]; exact (by decide : 6 < 95))]; rfl) | (subst_vars; rw [List.getElem?_set_self (by simp)]; rfl) | (subst_vars; simp; done)
  · have hm := HN.out
    rw [Bool.true_and] at hm
    subst hm
    have BX_20 := hd (BX_19.out.keep (keep_drew _))
    clear BX_19
    have BY_20 := hd (BY_19.out.keep (keep_drew _))
    clear BY_19
    have IX_20 := hd (IX_19.out.keep (keep_drew _))
    clear IX_19
    have IY_20 := hd (IY_19.out.keep (keep_drew _))
    clear IY_19
    have M_20 := hd (M_19.out.keep (keep_drew _))
    clear M_19
    have BM_20 := hd (BM_19.out.keep (keep_drew _))
    clear BM_19
    have XX_20 := hd (XX_19.out.keep (keep_drew _))
    clear XX_19
    have BF_20 := hd (BF_19.out.keep (keep_drew _))
    clear BF_19
    have KW_20 := hd (KW_19.out.trans (keep_drew _))
    clear KW_19
    obtain ⟨a20c0, a20c1, a20c2, a20c3, a20c4, a20c5⟩ := BM_20.out.d6
    obtain ⟨b20c0, b20c1, b20c2, b20c3, b20c4, b20c5⟩ := BX_20.out.d6
    obtain ⟨c20c0, c20c1, c20c2, c20c3, c20c4, c20c5⟩ := BY_20.out.d6
    obtain ⟨d20c0, d20c1, d20c2⟩ := BF_20.out.d3
    go_wp2
    refine wp_region_held_drew (S := fun w' => w'.cell? ⟨w6.heap.size, 0, none⟩ = some (.bool mlb) ∧ w'.cell? ⟨w6.heap.size, 1, none⟩ = some (.slice mla mln mlc) ∧ w'.cell? ⟨w6.heap.size, 2, none⟩ = some (.slice mlh mlm mlg) ∧ w'.cell? ⟨w6.heap.size, 3, none⟩ = some (.bool mub) ∧ w'.cell? ⟨w6.heap.size, 4, none⟩ = some (.slice mua mun muc) ∧ w'.cell? ⟨w6.heap.size, 5, none⟩ = some (.slice muh mum mug) ∧ w'.cell? ⟨w.heap.size, 0, none⟩ = some (.bool xlb) ∧ w'.cell? ⟨w.heap.size, 1, none⟩ = some (.slice xla xln xlc) ∧ w'.cell? ⟨w.heap.size, 2, none⟩ = some (.slice xlh xlm xlg) ∧ w'.cell? ⟨w.heap.size, 3, none⟩ = some (.bool xub) ∧ w'.cell? ⟨w.heap.size, 4, none⟩ = some (.slice xua xun xuc) ∧ w'.cell? ⟨w.heap.size, 5, none⟩ = some (.slice xuh xum xug) ∧ w'.cell? ⟨w.heap.size + 1, 0, none⟩ = some (.bool ylb) ∧ w'.cell? ⟨w.heap.size + 1, 1, none⟩ = some (.slice yla yln ylc) ∧ w'.cell? ⟨w.heap.size + 1, 2, none⟩ = some (.slice ylh ylm ylg) ∧ w'.cell? ⟨w.heap.size + 1, 3, none⟩ = some (.bool yub) ∧ w'.cell? ⟨w.heap.size + 1, 4, none⟩ = some (.slice yua yun yuc) ∧ w'.cell? ⟨w.heap.size + 1, 5, none⟩ = some (.slice yuh yum yug) ∧ w'.cell? ⟨w18.heap.size, 0, none⟩ = some (.bool fb) ∧ w'.cell? ⟨w18.heap.size, 1, none⟩ = some (.slice fa fn fc) ∧ w'.cell? ⟨w18.heap.size, 2, none⟩ = some (.slice fh fm fg)) (by kernel_rfl) ⟨a20c0, a20c1, a20c2, a20c3, a20c4, a20c5, b20c0, b20c1, b20c2, b20c3, b20c4, b20c5, c20c0, c20c1, c20c2, c20c3, c20c4, c20c5, d20c0, d20c1, d20c2⟩ (fun hHeld => ?_)
    refine wpAnyH_take (i := 0) (oi := _) (v := ?vB0) rfl (by kernel_rfl) (by kernel_rfl) (by kernel_rfl) (fun _ _ _ h => h) (Or.inl ⟨by rfl, ?hyB0⟩) (by assumption) ?restB0
    case hyB0 => (intro wq hSw; (try dsimp only at hSw); first | (go_simp; done) | (go_simp; with_reducible rfl))
    try simp only [Act.put, List.getElem_toArray, List.getElem_cons_succ, List.getElem_cons_zero, List.setIfInBounds_toArray, List.set_cons_zero, List.set_cons_succ]
    refine wpAnyH_take (i := 1) (oi := _) (v := ?vB1) rfl (by kernel_rfl) (by kernel_rfl) (by kernel_rfl) (fun _ _ _ h => h) (Or.inl ⟨by rfl, ?hyB1⟩) (by assumption) ?restB1
    case hyB1 => (intro wq hSw; (try dsimp only at hSw); first | (go_simp; done) | (go_simp; with_reducible rfl))
    try simp only [Act.put, List.getElem_toArray, List.getElem_cons_succ, List.getElem_cons_zero, List.setIfInBounds_toArray, List.set_cons_zero, List.set_cons_succ]
    refine wpAnyH_take (i := 2) (oi := _) (v := ?vB2) rfl (by kernel_rfl) (by kernel_rfl) (by kernel_rfl) (fun _ _ _ h => h) (Or.inl ⟨by rfl, ?hyB2⟩) (by assumption) ?restB2
    case hyB2 => (intro wq hSw; (try dsimp only at hSw); first | (go_simp; done) | (go_simp; with_reducible rfl))
    try simp only [Act.put, List.getElem_toArray, List.getElem_cons_succ, List.getElem_cons_zero, List.setIfInBounds_toArray, List.set_cons_zero, List.set_cons_succ]
    refine wpAnyH_take (i := 3) (oi := _) (v := undef) rfl (by kernel_rfl) (by kernel_rfl) (by kernel_rfl) (fun _ _ _ h => h) (Or.inr ⟨by rfl, rfl⟩) (by assumption) ?_
    try simp only [Act.put, List.setIfInBounds_toArray, List.set_cons_zero, List.set_cons_succ]
    refine wpAnyH_take (i := 4) (oi := _) (v := undef) rfl (by kernel_rfl) (by kernel_rfl) (by kernel_rfl) (fun _ _ _ h => h) (Or.inr ⟨by rfl, rfl⟩) (by assumption) ?_
    try simp only [Act.put, List.setIfInBounds_toArray, List.set_cons_zero, List.set_cons_succ]
    refine wpAnyH_take (i := 5) (oi := _) (v := undef) rfl (by kernel_rfl) (by kernel_rfl) (by kernel_rfl) (fun _ _ _ h => h) (Or.inr ⟨by rfl, rfl⟩) (by assumption) ?_
    try simp only [Act.put, List.setIfInBounds_toArray, List.set_cons_zero, List.set_cons_succ]
    refine wpAnyH_take (i := 6) (oi := _) (v := ?vB6) rfl (by kernel_rfl) (by kernel_rfl) (by kernel_rfl) (fun _ _ _ h => h) (Or.inl ⟨by rfl, ?hyB6⟩) (by assumption) ?restB6
    case hyB6 => (intro wq hSw; (try dsimp only at hSw); first | (go_simp; done) | (go_simp; with_reducible rfl))
    try simp only [Act.put, List.getElem_toArray, List.getElem_cons_succ, List.getElem_cons_zero, List.setIfInBounds_toArray, List.set_cons_zero, List.set_cons_succ]
    refine wpAnyH_take (i := 7) (oi := _) (v := ?vB7) rfl (by kernel_rfl) (by kernel_rfl) (by kernel_rfl) (fun _ _ _ h => h) (Or.inl ⟨by rfl, ?hyB7⟩) (by assumption) ?restB7
    case hyB7 => (intro wq hSw; (try dsimp only at hSw); first | (go_simp; done) | (go_simp; with_reducible rfl))
    try simp only [Act.put, List.getElem_toArray, List.getElem_cons_succ, List.getElem_cons_zero, List.setIfInBounds_toArray, List.set_cons_zero, List.set_cons_succ]
    refine wpAnyH_take (i := 8) (oi := _) (v := ?vB8) rfl (by kernel_rfl) (by kernel_rfl) (by kernel_rfl) (fun _ _ _ h => h) (Or.inl ⟨by rfl, ?hyB8⟩) (by assumption) ?restB8
    case hyB8 => (intro wq hSw; (try dsimp only at hSw); first | (go_simp; done) | (go_simp; with_reducible rfl))
    try simp only [Act.put, List.getElem_toArray, List.getElem_cons_succ, List.getElem_cons_zero, List.setIfInBounds_toArray, List.set_cons_zero, List.set_cons_succ]
    refine wpAnyH_ready (rs := [9]) (by kernel_rfl) (by simp) ?_
    refine AllReadyH.cons (o := _) rfl (fun K hK => ?_) AllReadyH.nil
    go_simp
    refine Calls.mono (CA.out _ _ IX_20.out XX_20.out) ?_
    rintro e w21 ⟨rfl, k21⟩
    have BX_21 := hd (BX_20.out.keep k21)
    have BY_21 := hd (BY_20.out.keep k21)
    have IX_21 := hd (IX_20.out.keep k21)
    have IY_21 := hd (IY_20.out.keep k21)
    have M_21 := hd (M_20.out.keep k21)
    have BM_21 := hd (BM_20.out.keep k21)
    have XX_21 := hd (XX_20.out.keep k21)
    have BF_21 := hd (BF_20.out.keep k21)
    have KW_21 := hd (KW_20.out.trans k21)
    clear k21 BX_20 BY_20 IX_20 IY_20 M_20 BM_20 XX_20 BF_20 KW_20
    obtain ⟨a21c0, a21c1, a21c2, a21c3, a21c4, a21c5⟩ := BM_21.out.d6
    obtain ⟨b21c0, b21c1, b21c2, b21c3, b21c4, b21c5⟩ := BX_21.out.d6
    obtain ⟨c21c0, c21c1, c21c2, c21c3, c21c4, c21c5⟩ := BY_21.out.d6
    obtain ⟨d21c0, d21c1, d21c2⟩ := BF_21.out.d3
    go_wp2_with fail
    refine hK.out _ _ ⟨a21c0, a21c1, a21c2, a21c3, a21c4, a21c5, b21c0, b21c1, b21c2, b21c3, b21c4, b21c5, c21c0, c21c1, c21c2, c21c3, c21c4, c21c5, d21c0, d21c1, d21c2⟩ (fun hHeld2 => ?_)
    clear hK K hHeld a20c0 a20c1 a20c2 a20c3 a20c4 a20c5 b20c0 b20c1 b20c2 b20c3 b20c4 b20c5 c20c0 c20c1 c20c2 c20c3 c20c4 c20c5 d20c0 d20c1 d20c2
    have hHeld := hHeld2
    clear hHeld2
    try simp only [Act.put, List.setIfInBounds_toArray, List.set_cons_zero, List.set_cons_succ]
    refine wpAnyH_take (i := 10) (oi := _) (v := ?vB10) rfl (by kernel_rfl) (by kernel_rfl) (by kernel_rfl) (fun _ _ _ h => h) (Or.inl ⟨by rfl, ?hyB10⟩) (by assumption) ?restB10
    case hyB10 => (intro wq hSw; (try dsimp only at hSw); first | (go_simp; done) | (go_simp; with_reducible rfl))
    try simp only [Act.put, List.getElem_toArray, List.getElem_cons_succ, List.getElem_cons_zero, List.setIfInBounds_toArray, List.set_cons_zero, List.set_cons_succ]
    refine wpAnyH_take (i := 11) (oi := _) (v := ?vB11) rfl (by kernel_rfl) (by kernel_rfl) (by kernel_rfl) (fun _ _ _ h => h) (Or.inl ⟨by rfl, ?hyB11⟩) (by assumption) ?restB11
    case hyB11 => (intro wq hSw; (try dsimp only at hSw); first | (go_simp; done) | (go_simp; with_reducible rfl))
    try simp only [Act.put, List.getElem_toArray, List.getElem_cons_succ, List.getElem_cons_zero, List.setIfInBounds_toArray, List.set_cons_zero, List.set_cons_succ]
    refine wpAnyH_take (i := 12) (oi := _) (v := ?vB12) rfl (by kernel_rfl) (by kernel_rfl) (by kernel_rfl) (fun _ _ _ h => h) (Or.inl ⟨by rfl, ?hyB12⟩) (by assumption) ?restB12
    case hyB12 => (intro wq hSw; (try dsimp only at hSw); first | (go_simp; done) | (go_simp; with_reducible rfl))
    try simp only [Act.put, List.getElem_toArray, List.getElem_cons_succ, List.getElem_cons_zero, List.setIfInBounds_toArray, List.set_cons_zero, List.set_cons_succ]
    refine wpAnyH_ready (rs := [13]) (by kernel_rfl) (by simp) ?_
    refine AllReadyH.cons (o := _) rfl (fun K hK => ?_) AllReadyH.nil
    go_simp
    refine Calls.mono (CB.out _ _ IY_21.out XX_21.out) ?_
    rintro e w22 ⟨rfl, k22⟩
    have BX_22 := hd (BX_21.out.keep k22)
    have BY_22 := hd (BY_21.out.keep k22)
    have IX_22 := hd (IX_21.out.keep k22)
    have IY_22 := hd (IY_21.out.keep k22)
    have M_22 := hd (M_21.out.keep k22)
    have BM_22 := hd (BM_21.out.keep k22)
    have XX_22 := hd (XX_21.out.keep k22)
    have BF_22 := hd (BF_21.out.keep k22)
    have KW_22 := hd (KW_21.out.trans k22)
    clear k22 BX_21 BY_21 IX_21 IY_21 M_21 BM_21 XX_21 BF_21 KW_21
    obtain ⟨a22c0, a22c1, a22c2, a22c3, a22c4, a22c5⟩ := BM_22.out.d6
    obtain ⟨b22c0, b22c1, b22c2, b22c3, b22c4, b22c5⟩ := BX_22.out.d6
    obtain ⟨c22c0, c22c1, c22c2, c22c3, c22c4, c22c5⟩ := BY_22.out.d6
    obtain ⟨d22c0, d22c1, d22c2⟩ := BF_22.out.d3
    go_wp2_with fail
    refine hK.out _ _ ⟨a22c0, a22c1, a22c2, a22c3, a22c4, a22c5, b22c0, b22c1, b22c2, b22c3, b22c4, b22c5, c22c0, c22c1, c22c2, c22c3, c22c4, c22c5, d22c0, d22c1, d22c2⟩ (fun hHeld2 => ?_)
    clear hK K hHeld a21c0 a21c1 a21c2 a21c3 a21c4 a21c5 b21c0 b21c1 b21c2 b21c3 b21c4 b21c5 c21c0 c21c1 c21c2 c21c3 c21c4 c21c5 d21c0 d21c1 d21c2
    have hHeld := hHeld2
    clear hHeld2
    try simp only [Act.put, List.setIfInBounds_toArray, List.set_cons_zero, List.set_cons_succ]
    refine wpAnyH_take (i := 14) (oi := _) (v := ?vB14) rfl (by kernel_rfl) (by kernel_rfl) (by kernel_rfl) (fun _ _ _ h => h) (Or.inl ⟨by rfl, ?hyB14⟩) (by assumption) ?restB14
    case hyB14 => (intro wq hSw; (try dsimp only at hSw); first | (go_simp; done) | (go_simp; with_reducible rfl))
    try simp only [Act.put, List.getElem_toArray, List.getElem_cons_succ, List.getElem_cons_zero, List.setIfInBounds_toArray, List.set_cons_zero, List.set_cons_succ]
    refine wpAnyH_take (i := 15) (oi := _) (v := ?vB15) rfl (by kernel_rfl) (by kernel_rfl) (by kernel_rfl) (fun _ _ _ h => h) (Or.inl ⟨by rfl, ?hyB15⟩) (by assumption) ?restB15
    case hyB15 => (intro wq hSw; (try dsimp only at hSw); first | (go_simp; done) | (go_simp; with_reducible rfl))
    try simp only [Act.put, List.getElem_toArray, List.getElem_cons_succ, List.getElem_cons_zero, List.setIfInBounds_toArray, List.set_cons_zero, List.set_cons_succ]
    refine wpAnyH_take (i := 16) (oi := _) (v := ?vB16) rfl (by kernel_rfl) (by kernel_rfl) (by kernel_rfl) (fun _ _ _ h => h) (Or.inl ⟨by rfl, ?hyB16⟩) (by assumption) ?restB16
    case hyB16 => (intro wq hSw; (try dsimp only at hSw); first | (go_simp; done) | (go_simp; with_reducible rfl))
    try simp only [Act.put, List.getElem_toArray, List.getElem_cons_succ, List.getElem_cons_zero, List.setIfInBounds_toArray, List.set_cons_zero, List.set_cons_succ]
    try simp only [Act.put, List.getElem_toArray, List.getElem_cons_succ, List.getElem_cons_zero, List.setIfInBounds_toArray, List.set_cons_zero, List.set_cons_succ]
    refine wpAnyH_done (by kernel_rfl) ?_ _
    try go_simp
    clear hHeld a22c0 a22c1 a22c2 a22c3 a22c4 a22c5 b22c0 b22c1 b22c2 b22c3 b22c4 b22c5 c22c0 c22c1 c22c2 c22c3 c22c4 c22c5 d22c0 d22c1 d22c2
    all_goals
      go_wp2_with fail
      go_ret
      refine ⟨?_, KW_22.out⟩
      first | rfl | (subst_vars; rw [List.getElem?_set_self (by rw [List.length_set]; exact (by decide : 6 < 95))]; rfl) | (subst_vars; rw [List.getElem?_set_self (by simp)]; rfl) | (subst_vars; simp; done)
theorem join_law_c {w : World} {xlb : Bool} {xla xlh : Option Addr} {xln xlc xlm xlg : Nat} {xub : Bool} {xua xuh : Option Addr} {xun xuc xum xug : Nat} {xl1 xl2 xu1 xu2 : List Nat} (hx1 : Rd w xla xln xlc xl1) (hx2 : Rd w xlh xlm xlg xl2) (hx3 : Rd w xua xun xuc xu1) (hx4 : Rd w xuh xum xug xu2) {ylb : Bool} {yla ylh : Option Addr} {yln ylc ylm ylg : Nat} {yub : Bool} {yua yuh : Option Addr} {yun yuc yum yug : Nat} {yl1 yl2 yu1 yu2 : List Nat} (hy1 : Rd w yla yln ylc yl1) (hy2 : Rd w ylh ylm ylg yl2) (hy3 : Rd w yua yun yuc yu1) (hy4 : Rd w yuh yum yug yu2) (hT : Tab w) (part : Int) (hp0 : 0 ≤ part) (hp1 : part < 256) : Calls Tryd.prog 7 #[.agg #[.bool xlb, .slice xla xln xlc, .slice xlh xlm xlg, .bool xub, .slice xua xun xuc, .slice xuh xum xug], .agg #[.bool ylb, .slice yla yln ylc, .slice ylh ylm ylg, .bool yub, .slice yua yun yuc, .slice yuh yum yug], .int .u8 part] w (BPost true w) := by
  by_cases ex : smallB xlb xl1 xl2 xub xu1 xu2 = true
  · by_cases ey : smallB ylb yl1 yl2 yub yu1 yu2 = true
    · by_cases hc : 0 < rC (rmax (rv xlb (nv xl1) (nv xl2)) (rv ylb (nv yl1) (nv yl2))) (rmin (rv xub (nv xu1) (nv xu2)) (rv yub (nv yu1) (nv yu2)))
      · exact join_law_s1 hx1 hx2 hx3 hx4 hy1 hy2 hy3 hy4 part hT hp0 (by omega) ex ey rfl rfl rfl rfl hc
      · exact join_law_s0 hx1 hx2 hx3 hx4 hy1 hy2 hy3 hy4 part hT hp0 (by omega) ex ey rfl rfl rfl rfl hc
    · rw [Bool.not_eq_true] at ey; exact join_law_b1 hx1 hx2 hx3 hx4 hy1 hy2 hy3 hy4 part hT ex ey
  · rw [Bool.not_eq_true] at ex; exact join_law_b0 hx1 hx2 hx3 hx4 hy1 hy2 hy3 hy4 part hT ex
end Go.Proofs.YtbcakefhknjbeaaDoor
