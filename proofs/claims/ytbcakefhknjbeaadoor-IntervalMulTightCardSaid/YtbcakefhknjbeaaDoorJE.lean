/- Walks of layer 6: the law of tight products. -/
import Derived.Test.YtbcakefhknjbeaaDoorJA
import Derived.Deep.DeepCutAuto
import Derived.RegionTactic
namespace Go.Proofs.YtbcakefhknjbeaaDoor
open Go.RowKit
set_option linter.unusedVariables false
/-- is one of the first k true? -/
def orN (l : List Bool) (k : Nat) : Bool := (l.take k).any id
theorem orN_1 (a b c d : Bool) : orN [a, b, c, d] 1 = (orN [a, b, c, d] 0 || a) := by simp [orN]
theorem orN_2 (a b c d : Bool) : orN [a, b, c, d] 2 = (orN [a, b, c, d] 1 || b) := by simp [orN]
theorem orN_3 (a b c d : Bool) : orN [a, b, c, d] 3 = (orN [a, b, c, d] 2 || c) := by simp [orN, Bool.or_assoc]
theorem orN_4 (a b c d : Bool) : orN [a, b, c, d] 4 = (orN [a, b, c, d] 3 || d) := by simp [orN, Bool.or_assoc]
theorem orN_all {a b c d : Bool} (h : a = true ∨ b = true ∨ c = true ∨ d = true) : orN [a, b, c, d] 4 = true := by
  rcases h with h | h | h | h <;> subst h <;> simp [orN]
theorem vb {a b : Bool} (h : a = b) : Value.bool a = Value.bool b := by rw [h]
theorem ICr.lo {w : World} {b : Bool} {a a' : Option Addr} {n c n' c' : Nat} {d : Bool} {e e' : Option Addr} {m i m' i' : Nat} {p q : Rat} (h : ICr w (.agg #[.bool b, .slice a n c, .slice a' n' c', .bool d, .slice e m i, .slice e' m' i']) p q) : Cr w (.agg #[.bool b, .slice a n c, .slice a' n' c']) p ∧ Cr w (.agg #[.bool d, .slice e m i, .slice e' m' i']) q := by
  obtain ⟨_, _, _, _, _, _, _, _, _, _, _, _, _, _, e, h1, h2⟩ := h
  cases e
  exact ⟨h1, h2⟩
set_option maxHeartbeats 4000000 in
theorem tight_law_b0 {w : World} {xlb : Bool} {xla xlh : Option Addr} {xln xlc xlm xlg : Nat} {xub : Bool} {xua xuh : Option Addr} {xun xuc xum xug : Nat} {xl1 xl2 xu1 xu2 : List Nat} (hx1 : Rd w xla xln xlc xl1) (hx2 : Rd w xlh xlm xlg xl2) (hx3 : Rd w xua xun xuc xu1) (hx4 : Rd w xuh xum xug xu2) {ylb : Bool} {yla ylh : Option Addr} {yln ylc ylm ylg : Nat} {yub : Bool} {yua yuh : Option Addr} {yun yuc yum yug : Nat} {yl1 yl2 yu1 yu2 : List Nat} (hy1 : Rd w yla yln ylc yl1) (hy2 : Rd w ylh ylm ylg yl2) (hy3 : Rd w yua yun yuc yu1) (hy4 : Rd w yuh yum yug yu2) (hT : Tab w) (ex : smallB xlb xl1 xl2 xub xu1 xu2 = false) : Calls Tryd.prog 6 #[.agg #[.bool xlb, .slice xla xln xlc, .slice xlh xlm xlg, .bool xub, .slice xua xun xuc, .slice xuh xum xug], .agg #[.bool ylb, .slice yla yln ylc, .slice ylh ylm ylg, .bool yub, .slice yua yun yuc, .slice yuh yum yug]] w (BPost true w) := by
  have KW_0 := Lib.hid (show Keep w ((w.alloc (.cells #[.bool xlb, .slice xla xln xlc, .slice xlh xlm xlg, .bool xub, .slice xua xun xuc, .slice xuh xum xug] 35)).alloc (.cells #[.bool ylb, .slice yla yln ylc, .slice ylh ylm ylg, .bool yub, .slice yua yun yuc, .slice yuh yum yug] 35)) from (Keep.alloc (Keep.alloc (Keep.refl _) _) _))
  have BX_0 := Lib.hid (show Bx (w.heap.size) [.bool xlb, .slice xla xln xlc, .slice xlh xlm xlg, .bool xub, .slice xua xun xuc, .slice xuh xum xug] ((w.alloc (.cells #[.bool xlb, .slice xla xln xlc, .slice xlh xlm xlg, .bool xub, .slice xua xun xuc, .slice xuh xum xug] 35)).alloc (.cells #[.bool ylb, .slice yla yln ylc, .slice ylh ylm ylg, .bool yub, .slice yua yun yuc, .slice yuh yum yug] 35)) from ((Bx.new w 35 (.b _ (.s _ _ _ (.s _ _ _ (.b _ (.s _ _ _ (.s _ _ _ .nil))))))).at (g' := w.heap.size) (by simp)).keep (Keep.alloc (Keep.refl _) _))
  have BY_0 := Lib.hid (show Bx (w.heap.size + 1) [.bool ylb, .slice yla yln ylc, .slice ylh ylm ylg, .bool yub, .slice yua yun yuc, .slice yuh yum yug] ((w.alloc (.cells #[.bool xlb, .slice xla xln xlc, .slice xlh xlm xlg, .bool xub, .slice xua xun xuc, .slice xuh xum xug] 35)).alloc (.cells #[.bool ylb, .slice yla yln ylc, .slice ylh ylm ylg, .bool yub, .slice yua yun yuc, .slice yuh yum yug] 35)) from ((Bx.new (w.alloc (.cells #[.bool xlb, .slice xla xln xlc, .slice xlh xlm xlg, .bool xub, .slice xua xun xuc, .slice xuh xum xug] 35)) 35 (.b _ (.s _ _ _ (.s _ _ _ (.b _ (.s _ _ _ (.s _ _ _ .nil))))))).at (g' := w.heap.size + 1) (by simp)).keep (Keep.refl _))
  have X1_0 := Lib.hid (hx1.below KW_0.out)
  have X2_0 := Lib.hid (hx2.below KW_0.out)
  have X3_0 := Lib.hid (hx3.below KW_0.out)
  have X4_0 := Lib.hid (hx4.below KW_0.out)
  have T_0 := Lib.hid (hT.keep KW_0.out)
  have AW := Lib.hid (fun w1 (hT1 : Tab w1) => awake6_c w1 hT1)
  have Sx := Lib.hid (fun w1 (h1 : Rd w1 xla xln xlc xl1) (h2 : Rd w1 xlh xlm xlg xl2) (h3 : Rd w1 xua xun xuc xu1) (h4 : Rd w1 xuh xum xug xu2) => small_c (w := w1) (xlb := xlb) (xub := xub) h1 h2 h3 h4)
  rw [ex] at Sx
  clear hT hx1 hx2 hx3 hx4 hy1 hy2 hy3 hy4 ex
  go_enter Tryd.func6, Tryd.ntmps6
  obtain ⟨BX_c0, BX_c1, BX_c2, BX_c3, BX_c4, BX_c5, -, -, -, -, -, -⟩ := BX_0.out.c6
  obtain ⟨BY_c0, BY_c1, BY_c2, BY_c3, BY_c4, BY_c5, -, -, -, -, -, -⟩ := BY_0.out.c6
  go_wp2_with fail
  refine Calls.mono (AW.out _ T_0.out) ?_
  rintro e w1 ⟨rfl, k1⟩
  clear BX_c0 BX_c1 BX_c2 BX_c3 BX_c4 BX_c5 BY_c0 BY_c1 BY_c2 BY_c3 BY_c4 BY_c5
  have BX_1 := Lib.hid (BX_0.out.keep k1)
  have BY_1 := Lib.hid (BY_0.out.keep k1)
  have X1_1 := Lib.hid (X1_0.out.keep k1)
  have X2_1 := Lib.hid (X2_0.out.keep k1)
  have X3_1 := Lib.hid (X3_0.out.keep k1)
  have X4_1 := Lib.hid (X4_0.out.keep k1)
  have T_1 := Lib.hid (T_0.out.keep k1)
  have KW_1 := Lib.hid (KW_0.out.trans k1)
  clear k1 BX_0 BY_0 X1_0 X2_0 X3_0 X4_0 T_0 KW_0
  obtain ⟨BX_c0, BX_c1, BX_c2, BX_c3, BX_c4, BX_c5, -, -, -, -, -, -⟩ := BX_1.out.c6
  obtain ⟨BY_c0, BY_c1, BY_c2, BY_c3, BY_c4, BY_c5, -, -, -, -, -, -⟩ := BY_1.out.c6
  go_wp2_with fail
  refine Calls.mono (Sx.out _ X1_1.out X2_1.out X3_1.out X4_1.out) ?_
  rintro e w2 ⟨rfl, k2⟩
  clear BX_c0 BX_c1 BX_c2 BX_c3 BX_c4 BX_c5 BY_c0 BY_c1 BY_c2 BY_c3 BY_c4 BY_c5
  have BX_2 := Lib.hid (BX_1.out.keep k2)
  have BY_2 := Lib.hid (BY_1.out.keep k2)
  have X1_2 := Lib.hid (X1_1.out.keep k2)
  have X2_2 := Lib.hid (X2_1.out.keep k2)
  have X3_2 := Lib.hid (X3_1.out.keep k2)
  have X4_2 := Lib.hid (X4_1.out.keep k2)
  have T_2 := Lib.hid (T_1.out.keep k2)
  have KW_2 := Lib.hid (KW_1.out.trans k2)
  clear k2 BX_1 BY_1 X1_1 X2_1 X3_1 X4_1 T_1 KW_1
  obtain ⟨BX_c0, BX_c1, BX_c2, BX_c3, BX_c4, BX_c5, -, -, -, -, -, -⟩ := BX_2.out.c6
  obtain ⟨BY_c0, BY_c1, BY_c2, BY_c3, BY_c4, BY_c5, -, -, -, -, -, -⟩ := BY_2.out.c6
  go_wp2_with fail
  go_ret
  exact ⟨rfl, KW_2.out⟩
set_option maxHeartbeats 4000000 in
theorem tight_law_b1 {w : World} {xlb : Bool} {xla xlh : Option Addr} {xln xlc xlm xlg : Nat} {xub : Bool} {xua xuh : Option Addr} {xun xuc xum xug : Nat} {xl1 xl2 xu1 xu2 : List Nat} (hx1 : Rd w xla xln xlc xl1) (hx2 : Rd w xlh xlm xlg xl2) (hx3 : Rd w xua xun xuc xu1) (hx4 : Rd w xuh xum xug xu2) {ylb : Bool} {yla ylh : Option Addr} {yln ylc ylm ylg : Nat} {yub : Bool} {yua yuh : Option Addr} {yun yuc yum yug : Nat} {yl1 yl2 yu1 yu2 : List Nat} (hy1 : Rd w yla yln ylc yl1) (hy2 : Rd w ylh ylm ylg yl2) (hy3 : Rd w yua yun yuc yu1) (hy4 : Rd w yuh yum yug yu2) (hT : Tab w) (ex : smallB xlb xl1 xl2 xub xu1 xu2 = true) (ey : smallB ylb yl1 yl2 yub yu1 yu2 = false) : Calls Tryd.prog 6 #[.agg #[.bool xlb, .slice xla xln xlc, .slice xlh xlm xlg, .bool xub, .slice xua xun xuc, .slice xuh xum xug], .agg #[.bool ylb, .slice yla yln ylc, .slice ylh ylm ylg, .bool yub, .slice yua yun yuc, .slice yuh yum yug]] w (BPost true w) := by
  have KW_0 := Lib.hid (show Keep w ((w.alloc (.cells #[.bool xlb, .slice xla xln xlc, .slice xlh xlm xlg, .bool xub, .slice xua xun xuc, .slice xuh xum xug] 35)).alloc (.cells #[.bool ylb, .slice yla yln ylc, .slice ylh ylm ylg, .bool yub, .slice yua yun yuc, .slice yuh yum yug] 35)) from (Keep.alloc (Keep.alloc (Keep.refl _) _) _))
  have BX_0 := Lib.hid (show Bx (w.heap.size) [.bool xlb, .slice xla xln xlc, .slice xlh xlm xlg, .bool xub, .slice xua xun xuc, .slice xuh xum xug] ((w.alloc (.cells #[.bool xlb, .slice xla xln xlc, .slice xlh xlm xlg, .bool xub, .slice xua xun xuc, .slice xuh xum xug] 35)).alloc (.cells #[.bool ylb, .slice yla yln ylc, .slice ylh ylm ylg, .bool yub, .slice yua yun yuc, .slice yuh yum yug] 35)) from ((Bx.new w 35 (.b _ (.s _ _ _ (.s _ _ _ (.b _ (.s _ _ _ (.s _ _ _ .nil))))))).at (g' := w.heap.size) (by simp)).keep (Keep.alloc (Keep.refl _) _))
  have BY_0 := Lib.hid (show Bx (w.heap.size + 1) [.bool ylb, .slice yla yln ylc, .slice ylh ylm ylg, .bool yub, .slice yua yun yuc, .slice yuh yum yug] ((w.alloc (.cells #[.bool xlb, .slice xla xln xlc, .slice xlh xlm xlg, .bool xub, .slice xua xun xuc, .slice xuh xum xug] 35)).alloc (.cells #[.bool ylb, .slice yla yln ylc, .slice ylh ylm ylg, .bool yub, .slice yua yun yuc, .slice yuh yum yug] 35)) from ((Bx.new (w.alloc (.cells #[.bool xlb, .slice xla xln xlc, .slice xlh xlm xlg, .bool xub, .slice xua xun xuc, .slice xuh xum xug] 35)) 35 (.b _ (.s _ _ _ (.s _ _ _ (.b _ (.s _ _ _ (.s _ _ _ .nil))))))).at (g' := w.heap.size + 1) (by simp)).keep (Keep.refl _))
  have X1_0 := Lib.hid (hx1.below KW_0.out)
  have X2_0 := Lib.hid (hx2.below KW_0.out)
  have X3_0 := Lib.hid (hx3.below KW_0.out)
  have X4_0 := Lib.hid (hx4.below KW_0.out)
  have Y1_0 := Lib.hid (hy1.below KW_0.out)
  have Y2_0 := Lib.hid (hy2.below KW_0.out)
  have Y3_0 := Lib.hid (hy3.below KW_0.out)
  have Y4_0 := Lib.hid (hy4.below KW_0.out)
  have T_0 := Lib.hid (hT.keep KW_0.out)
  have AW := Lib.hid (fun w1 (hT1 : Tab w1) => awake6_c w1 hT1)
  have Sx := Lib.hid (fun w1 (h1 : Rd w1 xla xln xlc xl1) (h2 : Rd w1 xlh xlm xlg xl2) (h3 : Rd w1 xua xun xuc xu1) (h4 : Rd w1 xuh xum xug xu2) => small_c (w := w1) (xlb := xlb) (xub := xub) h1 h2 h3 h4)
  rw [ex] at Sx
  have Sy := Lib.hid (fun w1 (h1 : Rd w1 yla yln ylc yl1) (h2 : Rd w1 ylh ylm ylg yl2) (h3 : Rd w1 yua yun yuc yu1) (h4 : Rd w1 yuh yum yug yu2) => small_c (w := w1) (xlb := ylb) (xub := yub) h1 h2 h3 h4)
  rw [ey] at Sy
  clear hT hx1 hx2 hx3 hx4 hy1 hy2 hy3 hy4 ex ey
  go_enter Tryd.func6, Tryd.ntmps6
  obtain ⟨BX_c0, BX_c1, BX_c2, BX_c3, BX_c4, BX_c5, -, -, -, -, -, -⟩ := BX_0.out.c6
  obtain ⟨BY_c0, BY_c1, BY_c2, BY_c3, BY_c4, BY_c5, -, -, -, -, -, -⟩ := BY_0.out.c6
  go_wp2_with fail
  refine Calls.mono (AW.out _ T_0.out) ?_
  rintro e w1 ⟨rfl, k1⟩
  clear BX_c0 BX_c1 BX_c2 BX_c3 BX_c4 BX_c5 BY_c0 BY_c1 BY_c2 BY_c3 BY_c4 BY_c5
  have BX_1 := Lib.hid (BX_0.out.keep k1)
  have BY_1 := Lib.hid (BY_0.out.keep k1)
  have X1_1 := Lib.hid (X1_0.out.keep k1)
  have X2_1 := Lib.hid (X2_0.out.keep k1)
  have X3_1 := Lib.hid (X3_0.out.keep k1)
  have X4_1 := Lib.hid (X4_0.out.keep k1)
  have Y1_1 := Lib.hid (Y1_0.out.keep k1)
  have Y2_1 := Lib.hid (Y2_0.out.keep k1)
  have Y3_1 := Lib.hid (Y3_0.out.keep k1)
  have Y4_1 := Lib.hid (Y4_0.out.keep k1)
  have T_1 := Lib.hid (T_0.out.keep k1)
  have KW_1 := Lib.hid (KW_0.out.trans k1)
  clear k1 BX_0 BY_0 X1_0 X2_0 X3_0 X4_0 Y1_0 Y2_0 Y3_0 Y4_0 T_0 KW_0
  obtain ⟨BX_c0, BX_c1, BX_c2, BX_c3, BX_c4, BX_c5, -, -, -, -, -, -⟩ := BX_1.out.c6
  obtain ⟨BY_c0, BY_c1, BY_c2, BY_c3, BY_c4, BY_c5, -, -, -, -, -, -⟩ := BY_1.out.c6
  go_wp2_with fail
  refine Calls.mono (Sx.out _ X1_1.out X2_1.out X3_1.out X4_1.out) ?_
  rintro e w2 ⟨rfl, k2⟩
  clear BX_c0 BX_c1 BX_c2 BX_c3 BX_c4 BX_c5 BY_c0 BY_c1 BY_c2 BY_c3 BY_c4 BY_c5
  have BX_2 := Lib.hid (BX_1.out.keep k2)
  have BY_2 := Lib.hid (BY_1.out.keep k2)
  have X1_2 := Lib.hid (X1_1.out.keep k2)
  have X2_2 := Lib.hid (X2_1.out.keep k2)
  have X3_2 := Lib.hid (X3_1.out.keep k2)
  have X4_2 := Lib.hid (X4_1.out.keep k2)
  have Y1_2 := Lib.hid (Y1_1.out.keep k2)
  have Y2_2 := Lib.hid (Y2_1.out.keep k2)
  have Y3_2 := Lib.hid (Y3_1.out.keep k2)
  have Y4_2 := Lib.hid (Y4_1.out.keep k2)
  have T_2 := Lib.hid (T_1.out.keep k2)
  have KW_2 := Lib.hid (KW_1.out.trans k2)
  clear k2 BX_1 BY_1 X1_1 X2_1 X3_1 X4_1 Y1_1 Y2_1 Y3_1 Y4_1 T_1 KW_1
  obtain ⟨BX_c0, BX_c1, BX_c2, BX_c3, BX_c4, BX_c5, -, -, -, -, -, -⟩ := BX_2.out.c6
  obtain ⟨BY_c0, BY_c1, BY_c2, BY_c3, BY_c4, BY_c5, -, -, -, -, -, -⟩ := BY_2.out.c6
  go_wp2_with fail
  refine Calls.mono (Sy.out _ Y1_2.out Y2_2.out Y3_2.out Y4_2.out) ?_
  rintro e w3 ⟨rfl, k3⟩
  clear BX_c0 BX_c1 BX_c2 BX_c3 BX_c4 BX_c5 BY_c0 BY_c1 BY_c2 BY_c3 BY_c4 BY_c5
  have BX_3 := Lib.hid (BX_2.out.keep k3)
  have BY_3 := Lib.hid (BY_2.out.keep k3)
  have X1_3 := Lib.hid (X1_2.out.keep k3)
  have X2_3 := Lib.hid (X2_2.out.keep k3)
  have X3_3 := Lib.hid (X3_2.out.keep k3)
  have X4_3 := Lib.hid (X4_2.out.keep k3)
  have Y1_3 := Lib.hid (Y1_2.out.keep k3)
  have Y2_3 := Lib.hid (Y2_2.out.keep k3)
  have Y3_3 := Lib.hid (Y3_2.out.keep k3)
  have Y4_3 := Lib.hid (Y4_2.out.keep k3)
  have T_3 := Lib.hid (T_2.out.keep k3)
  have KW_3 := Lib.hid (KW_2.out.trans k3)
  clear k3 BX_2 BY_2 X1_2 X2_2 X3_2 X4_2 Y1_2 Y2_2 Y3_2 Y4_2 T_2 KW_2
  obtain ⟨BX_c0, BX_c1, BX_c2, BX_c3, BX_c4, BX_c5, -, -, -, -, -, -⟩ := BX_3.out.c6
  obtain ⟨BY_c0, BY_c1, BY_c2, BY_c3, BY_c4, BY_c5, -, -, -, -, -, -⟩ := BY_3.out.c6
  go_wp2_with fail
  go_ret
  exact ⟨rfl, KW_3.out⟩
set_option maxRecDepth 100000 in
set_option maxHeartbeats 16000000 in
theorem tight_law_s {w : World} {xlb : Bool} {xla xlh : Option Addr} {xln xlc xlm xlg : Nat} {xub : Bool} {xua xuh : Option Addr} {xun xuc xum xug : Nat} {xl1 xl2 xu1 xu2 : List Nat} (hx1 : Rd w xla xln xlc xl1) (hx2 : Rd w xlh xlm xlg xl2) (hx3 : Rd w xua xun xuc xu1) (hx4 : Rd w xuh xum xug xu2) {ylb : Bool} {yla ylh : Option Addr} {yln ylc ylm ylg : Nat} {yub : Bool} {yua yuh : Option Addr} {yun yuc yum yug : Nat} {yl1 yl2 yu1 yu2 : List Nat} (hy1 : Rd w yla yln ylc yl1) (hy2 : Rd w ylh ylm ylg yl2) (hy3 : Rd w yua yun yuc yu1) (hy4 : Rd w yuh yum yug yu2) (hT : Tab w) (ex : smallB xlb xl1 xl2 xub xu1 xu2 = true) (ey : smallB ylb yl1 yl2 yub yu1 yu2 = true) : Calls Tryd.prog 6 #[.agg #[.bool xlb, .slice xla xln xlc, .slice xlh xlm xlg, .bool xub, .slice xua xun xuc, .slice xuh xum xug], .agg #[.bool ylb, .slice yla yln ylc, .slice ylh ylm ylg, .bool yub, .slice yua yun yuc, .slice yuh yum yug]] w (BPost true w) := by
  have KW_0 := Lib.hid (show Keep w ((w.alloc (.cells #[.bool xlb, .slice xla xln xlc, .slice xlh xlm xlg, .bool xub, .slice xua xun xuc, .slice xuh xum xug] 35)).alloc (.cells #[.bool ylb, .slice yla yln ylc, .slice ylh ylm ylg, .bool yub, .slice yua yun yuc, .slice yuh yum yug] 35)) from (Keep.alloc (Keep.alloc (Keep.refl _) _) _))
  have BX_0 := Lib.hid (show Bx (w.heap.size) [.bool xlb, .slice xla xln xlc, .slice xlh xlm xlg, .bool xub, .slice xua xun xuc, .slice xuh xum xug] ((w.alloc (.cells #[.bool xlb, .slice xla xln xlc, .slice xlh xlm xlg, .bool xub, .slice xua xun xuc, .slice xuh xum xug] 35)).alloc (.cells #[.bool ylb, .slice yla yln ylc, .slice ylh ylm ylg, .bool yub, .slice yua yun yuc, .slice yuh yum yug] 35)) from ((Bx.new w 35 (.b _ (.s _ _ _ (.s _ _ _ (.b _ (.s _ _ _ (.s _ _ _ .nil))))))).at (g' := w.heap.size) (by simp)).keep (Keep.alloc (Keep.refl _) _))
  have BY_0 := Lib.hid (show Bx (w.heap.size + 1) [.bool ylb, .slice yla yln ylc, .slice ylh ylm ylg, .bool yub, .slice yua yun yuc, .slice yuh yum yug] ((w.alloc (.cells #[.bool xlb, .slice xla xln xlc, .slice xlh xlm xlg, .bool xub, .slice xua xun xuc, .slice xuh xum xug] 35)).alloc (.cells #[.bool ylb, .slice yla yln ylc, .slice ylh ylm ylg, .bool yub, .slice yua yun yuc, .slice yuh yum yug] 35)) from ((Bx.new (w.alloc (.cells #[.bool xlb, .slice xla xln xlc, .slice xlh xlm xlg, .bool xub, .slice xua xun xuc, .slice xuh xum xug] 35)) 35 (.b _ (.s _ _ _ (.s _ _ _ (.b _ (.s _ _ _ (.s _ _ _ .nil))))))).at (g' := w.heap.size + 1) (by simp)).keep (Keep.refl _))
  have X1_0 := Lib.hid (hx1.below KW_0.out)
  have X2_0 := Lib.hid (hx2.below KW_0.out)
  have X3_0 := Lib.hid (hx3.below KW_0.out)
  have X4_0 := Lib.hid (hx4.below KW_0.out)
  have Y1_0 := Lib.hid (hy1.below KW_0.out)
  have Y2_0 := Lib.hid (hy2.below KW_0.out)
  have Y3_0 := Lib.hid (hy3.below KW_0.out)
  have Y4_0 := Lib.hid (hy4.below KW_0.out)
  have T_0 := Lib.hid (hT.keep KW_0.out)
  have AW := Lib.hid (fun w1 (hT1 : Tab w1) => awake6_c w1 hT1)
  have Sx := Lib.hid (fun w1 (h1 : Rd w1 xla xln xlc xl1) (h2 : Rd w1 xlh xlm xlg xl2) (h3 : Rd w1 xua xun xuc xu1) (h4 : Rd w1 xuh xum xug xu2) => small_c (w := w1) (xlb := xlb) (xub := xub) h1 h2 h3 h4)
  rw [ex] at Sx
  have Sy := Lib.hid (fun w1 (h1 : Rd w1 yla yln ylc yl1) (h2 : Rd w1 ylh ylm ylg yl2) (h3 : Rd w1 yua yun yuc yu1) (h4 : Rd w1 yuh yum yug yu2) => small_c (w := w1) (xlb := ylb) (xub := yub) h1 h2 h3 h4)
  rw [ey] at Sy
  obtain ⟨⟨jx1, jx2⟩, ⟨jx3, jx4⟩, hlex⟩ := smallB_le ex
  have hrxl := rdRa (s := xlb) hx1 hx2 jx1 jx2
  have hrxu := rdRa (s := xub) hx3 hx4 jx3 jx4
  obtain ⟨p, hqxl⟩ : ∃ z, rv xlb (nv xl1) (nv xl2) = z := ⟨_, rfl⟩
  obtain ⟨q, hqxu⟩ : ∃ z, rv xub (nv xu1) (nv xu2) = z := ⟨_, rfl⟩
  rw [hqxl] at hrxl hlex
  rw [hqxu] at hrxu hlex
  have hix : IRa w (.agg #[.bool xlb, .slice xla xln xlc, .slice xlh xlm xlg, .bool xub, .slice xua xun xuc, .slice xuh xum xug]) p q 2 := ⟨xlb, xla, xln, xlc, xlh, xlm, xlg, xub, xua, xun, xuc, xuh, xum, xug, rfl, hrxl, hrxu⟩
  have IX_0 := Lib.hid (hix.keep KW_0.out)
  have rbp := hrxl.rb (by omega)
  have rbq := hrxu.rb (by omega)
  have XL_0 := Lib.hid (hrxl.keep KW_0.out)
  have XU_0 := Lib.hid (hrxu.keep KW_0.out)
  have HLx := Lib.hid hlex
  clear hqxl hqxu jx1 jx2 jx3 jx4
  obtain ⟨⟨jy1, jy2⟩, ⟨jy3, jy4⟩, hley⟩ := smallB_le ey
  have hryl := rdRa (s := ylb) hy1 hy2 jy1 jy2
  have hryu := rdRa (s := yub) hy3 hy4 jy3 jy4
  obtain ⟨r, hqyl⟩ : ∃ z, rv ylb (nv yl1) (nv yl2) = z := ⟨_, rfl⟩
  obtain ⟨s, hqyu⟩ : ∃ z, rv yub (nv yu1) (nv yu2) = z := ⟨_, rfl⟩
  rw [hqyl] at hryl hley
  rw [hqyu] at hryu hley
  have hiy : IRa w (.agg #[.bool ylb, .slice yla yln ylc, .slice ylh ylm ylg, .bool yub, .slice yua yun yuc, .slice yuh yum yug]) r s 2 := ⟨ylb, yla, yln, ylc, ylh, ylm, ylg, yub, yua, yun, yuc, yuh, yum, yug, rfl, hryl, hryu⟩
  have IY_0 := Lib.hid (hiy.keep KW_0.out)
  have rbr := hryl.rb (by omega)
  have rbs := hryu.rb (by omega)
  have YL_0 := Lib.hid (hryl.keep KW_0.out)
  have YU_0 := Lib.hid (hryu.keep KW_0.out)
  have HLy := Lib.hid hley
  clear hqyl hqyu jy1 jy2 jy3 jy4
  have MU := Lib.hid (fun w1 (h : IRa w1 (.agg #[.bool xlb, .slice xla xln xlc, .slice xlh xlm xlg, .bool xub, .slice xua xun xuc, .slice xuh xum xug]) p q 2) (h' : IRa w1 (.agg #[.bool ylb, .slice yla yln ylc, .slice ylh ylm ylg, .bool yub, .slice yua yun yuc, .slice yuh yum yug]) r s 2) (hT1 : Tab w1) => imul_c h h' (by omega) (by omega) hT1)
  have C1 := Lib.hid (fun w1 (h : Ra w1 (.agg #[.bool xlb, .slice xla xln xlc, .slice xlh xlm xlg]) p 2) (h' : Ra w1 (.agg #[.bool ylb, .slice yla yln ylc, .slice ylh ylm ylg]) r 2) => rqmul_c h h' (by omega) (by omega))
  have C2 := Lib.hid (fun w1 (h : Ra w1 (.agg #[.bool xlb, .slice xla xln xlc, .slice xlh xlm xlg]) p 2) (h' : Ra w1 (.agg #[.bool yub, .slice yua yun yuc, .slice yuh yum yug]) s 2) => rqmul_c h h' (by omega) (by omega))
  have C3 := Lib.hid (fun w1 (h : Ra w1 (.agg #[.bool xub, .slice xua xun xuc, .slice xuh xum xug]) q 2) (h' : Ra w1 (.agg #[.bool ylb, .slice yla yln ylc, .slice ylh ylm ylg]) r 2) => rqmul_c h h' (by omega) (by omega))
  have C4 := Lib.hid (fun w1 (h : Ra w1 (.agg #[.bool xub, .slice xua xun xuc, .slice xuh xum xug]) q 2) (h' : Ra w1 (.agg #[.bool yub, .slice yua yun yuc, .slice yuh yum yug]) s 2) => rqmul_c h h' (by omega) (by omega))
  have one1 := m4_one (p * r) (p * s) (q * r) (q * s)
  have one2 := x4_one (p * r) (p * s) (q * r) (q * s)
  obtain ⟨P1, e1⟩ : ∃ P, p * r = P := ⟨_, rfl⟩
  rw [e1] at C1 MU one1 one2
  clear e1
  obtain ⟨P2, e2⟩ : ∃ P, p * s = P := ⟨_, rfl⟩
  rw [e2] at C2 MU one1 one2
  clear e2
  obtain ⟨P3, e3⟩ : ∃ P, q * r = P := ⟨_, rfl⟩
  rw [e3] at C3 MU one1 one2
  clear e3
  obtain ⟨P4, e4⟩ : ∃ P, q * s = P := ⟨_, rfl⟩
  rw [e4] at C4 MU one1 one2
  clear e4
  obtain ⟨M, eM⟩ : ∃ P, m4 P1 P2 P3 P4 = P := ⟨_, rfl⟩
  obtain ⟨X, eX⟩ : ∃ P, x4 P1 P2 P3 P4 = P := ⟨_, rfl⟩
  rw [eM] at MU one1
  rw [eX] at MU one2
  clear eM eX
  have SL1 := Lib.hid (fun w1 u v (h : Cr w1 u M) (h' : Cr w1 v P1) => qsame_d h h')
  obtain ⟨b1, hb1⟩ : ∃ b, decide (M = P1) = b := ⟨_, rfl⟩
  rw [hb1] at SL1
  have SL2 := Lib.hid (fun w1 u v (h : Cr w1 u M) (h' : Cr w1 v P2) => qsame_d h h')
  obtain ⟨b2, hb2⟩ : ∃ b, decide (M = P2) = b := ⟨_, rfl⟩
  rw [hb2] at SL2
  have SL3 := Lib.hid (fun w1 u v (h : Cr w1 u M) (h' : Cr w1 v P3) => qsame_d h h')
  obtain ⟨b3, hb3⟩ : ∃ b, decide (M = P3) = b := ⟨_, rfl⟩
  rw [hb3] at SL3
  have SL4 := Lib.hid (fun w1 u v (h : Cr w1 u M) (h' : Cr w1 v P4) => qsame_d h h')
  obtain ⟨b4, hb4⟩ : ∃ b, decide (M = P4) = b := ⟨_, rfl⟩
  rw [hb4] at SL4
  have Ab := Lib.hid (orN_all (a := b1) (b := b2) (c := b3) (d := b4) (by rw [← hb1, ← hb2, ← hb3, ← hb4]; simpa using one1))
  clear hb1 hb2 hb3 hb4
  have SU1 := Lib.hid (fun w1 u v (h : Cr w1 u X) (h' : Cr w1 v P1) => qsame_d h h')
  obtain ⟨c1, hc1⟩ : ∃ b, decide (X = P1) = b := ⟨_, rfl⟩
  rw [hc1] at SU1
  have SU2 := Lib.hid (fun w1 u v (h : Cr w1 u X) (h' : Cr w1 v P2) => qsame_d h h')
  obtain ⟨c2, hc2⟩ : ∃ b, decide (X = P2) = b := ⟨_, rfl⟩
  rw [hc2] at SU2
  have SU3 := Lib.hid (fun w1 u v (h : Cr w1 u X) (h' : Cr w1 v P3) => qsame_d h h')
  obtain ⟨c3, hc3⟩ : ∃ b, decide (X = P3) = b := ⟨_, rfl⟩
  rw [hc3] at SU3
  have SU4 := Lib.hid (fun w1 u v (h : Cr w1 u X) (h' : Cr w1 v P4) => qsame_d h h')
  obtain ⟨c4, hc4⟩ : ∃ b, decide (X = P4) = b := ⟨_, rfl⟩
  rw [hc4] at SU4
  have Ac := Lib.hid (orN_all (a := c1) (b := c2) (c := c3) (d := c4) (by rw [← hc1, ← hc2, ← hc3, ← hc4]; simpa using one2))
  clear hc1 hc2 hc3 hc4
  clear one1 one2 hT ex ey rbp rbq rbr rbs hix hiy hrxl hrxu hryl hryu hlex hley HLx HLy hx1 hx2 hx3 hx4 hy1 hy2 hy3 hy4
  go_enter Tryd.func6, Tryd.ntmps6
  obtain ⟨BX_c0, BX_c1, BX_c2, BX_c3, BX_c4, BX_c5, -, -, -, -, -, -⟩ := BX_0.out.c6
  obtain ⟨BY_c0, BY_c1, BY_c2, BY_c3, BY_c4, BY_c5, -, -, -, -, -, -⟩ := BY_0.out.c6
  go_wp2_with fail
  refine Calls.mono (AW.out _ T_0.out) ?_
  rintro e w1 ⟨rfl, k1⟩
  clear BX_c0 BX_c1 BX_c2 BX_c3 BX_c4 BX_c5 BY_c0 BY_c1 BY_c2 BY_c3 BY_c4 BY_c5
  have BX_1 := Lib.hid (BX_0.out.keep k1)
  have BY_1 := Lib.hid (BY_0.out.keep k1)
  have X1_1 := Lib.hid (X1_0.out.keep k1)
  have X2_1 := Lib.hid (X2_0.out.keep k1)
  have X3_1 := Lib.hid (X3_0.out.keep k1)
  have X4_1 := Lib.hid (X4_0.out.keep k1)
  have Y1_1 := Lib.hid (Y1_0.out.keep k1)
  have Y2_1 := Lib.hid (Y2_0.out.keep k1)
  have Y3_1 := Lib.hid (Y3_0.out.keep k1)
  have Y4_1 := Lib.hid (Y4_0.out.keep k1)
  have T_1 := Lib.hid (T_0.out.keep k1)
  have IX_1 := Lib.hid (IX_0.out.keep k1)
  have XL_1 := Lib.hid (XL_0.out.keep k1)
  have XU_1 := Lib.hid (XU_0.out.keep k1)
  have IY_1 := Lib.hid (IY_0.out.keep k1)
  have YL_1 := Lib.hid (YL_0.out.keep k1)
  have YU_1 := Lib.hid (YU_0.out.keep k1)
  have KW_1 := Lib.hid (KW_0.out.trans k1)
  clear k1 BX_0 BY_0 X1_0 X2_0 X3_0 X4_0 Y1_0 Y2_0 Y3_0 Y4_0 T_0 IX_0 XL_0 XU_0 IY_0 YL_0 YU_0 KW_0
  obtain ⟨BX_c0, BX_c1, BX_c2, BX_c3, BX_c4, BX_c5, -, -, -, -, -, -⟩ := BX_1.out.c6
  obtain ⟨BY_c0, BY_c1, BY_c2, BY_c3, BY_c4, BY_c5, -, -, -, -, -, -⟩ := BY_1.out.c6
  go_wp2_with fail
  refine Calls.mono (Sx.out _ X1_1.out X2_1.out X3_1.out X4_1.out) ?_
  rintro e w2 ⟨rfl, k2⟩
  clear BX_c0 BX_c1 BX_c2 BX_c3 BX_c4 BX_c5 BY_c0 BY_c1 BY_c2 BY_c3 BY_c4 BY_c5
  have BX_2 := Lib.hid (BX_1.out.keep k2)
  have BY_2 := Lib.hid (BY_1.out.keep k2)
  have X1_2 := Lib.hid (X1_1.out.keep k2)
  have X2_2 := Lib.hid (X2_1.out.keep k2)
  have X3_2 := Lib.hid (X3_1.out.keep k2)
  have X4_2 := Lib.hid (X4_1.out.keep k2)
  have Y1_2 := Lib.hid (Y1_1.out.keep k2)
  have Y2_2 := Lib.hid (Y2_1.out.keep k2)
  have Y3_2 := Lib.hid (Y3_1.out.keep k2)
  have Y4_2 := Lib.hid (Y4_1.out.keep k2)
  have T_2 := Lib.hid (T_1.out.keep k2)
  have IX_2 := Lib.hid (IX_1.out.keep k2)
  have XL_2 := Lib.hid (XL_1.out.keep k2)
  have XU_2 := Lib.hid (XU_1.out.keep k2)
  have IY_2 := Lib.hid (IY_1.out.keep k2)
  have YL_2 := Lib.hid (YL_1.out.keep k2)
  have YU_2 := Lib.hid (YU_1.out.keep k2)
  have KW_2 := Lib.hid (KW_1.out.trans k2)
  clear k2 BX_1 BY_1 X1_1 X2_1 X3_1 X4_1 Y1_1 Y2_1 Y3_1 Y4_1 T_1 IX_1 XL_1 XU_1 IY_1 YL_1 YU_1 KW_1
  obtain ⟨BX_c0, BX_c1, BX_c2, BX_c3, BX_c4, BX_c5, -, -, -, -, -, -⟩ := BX_2.out.c6
  obtain ⟨BY_c0, BY_c1, BY_c2, BY_c3, BY_c4, BY_c5, -, -, -, -, -, -⟩ := BY_2.out.c6
  go_wp2_with fail
  refine Calls.mono (Sy.out _ Y1_2.out Y2_2.out Y3_2.out Y4_2.out) ?_
  rintro e w3 ⟨rfl, k3⟩
  clear BX_c0 BX_c1 BX_c2 BX_c3 BX_c4 BX_c5 BY_c0 BY_c1 BY_c2 BY_c3 BY_c4 BY_c5
  have BX_3 := Lib.hid (BX_2.out.keep k3)
  have BY_3 := Lib.hid (BY_2.out.keep k3)
  have X1_3 := Lib.hid (X1_2.out.keep k3)
  have X2_3 := Lib.hid (X2_2.out.keep k3)
  have X3_3 := Lib.hid (X3_2.out.keep k3)
  have X4_3 := Lib.hid (X4_2.out.keep k3)
  have Y1_3 := Lib.hid (Y1_2.out.keep k3)
  have Y2_3 := Lib.hid (Y2_2.out.keep k3)
  have Y3_3 := Lib.hid (Y3_2.out.keep k3)
  have Y4_3 := Lib.hid (Y4_2.out.keep k3)
  have T_3 := Lib.hid (T_2.out.keep k3)
  have IX_3 := Lib.hid (IX_2.out.keep k3)
  have XL_3 := Lib.hid (XL_2.out.keep k3)
  have XU_3 := Lib.hid (XU_2.out.keep k3)
  have IY_3 := Lib.hid (IY_2.out.keep k3)
  have YL_3 := Lib.hid (YL_2.out.keep k3)
  have YU_3 := Lib.hid (YU_2.out.keep k3)
  have KW_3 := Lib.hid (KW_2.out.trans k3)
  clear k3 BX_2 BY_2 X1_2 X2_2 X3_2 X4_2 Y1_2 Y2_2 Y3_2 Y4_2 T_2 IX_2 XL_2 XU_2 IY_2 YL_2 YU_2 KW_2
  clear AW Sx Sy
  clear X1_3 X2_3 X3_3 X4_3 Y1_3 Y2_3 Y3_3 Y4_3
  obtain ⟨BX_c0, BX_c1, BX_c2, BX_c3, BX_c4, BX_c5, -, -, -, -, -, -⟩ := BX_3.out.c6
  obtain ⟨BY_c0, BY_c1, BY_c2, BY_c3, BY_c4, BY_c5, -, -, -, -, -, -⟩ := BY_3.out.c6
  go_wp2_with fail
  refine Calls.mono (MU.out _ IX_3.out IY_3.out T_3.out) ?_
  rintro e w4 ⟨um, rfl, hM, k4⟩
  clear BX_c0 BX_c1 BX_c2 BX_c3 BX_c4 BX_c5 BY_c0 BY_c1 BY_c2 BY_c3 BY_c4 BY_c5
  have BX_4 := Lib.hid (BX_3.out.keep k4)
  have BY_4 := Lib.hid (BY_3.out.keep k4)
  have T_4 := Lib.hid (T_3.out.keep k4)
  have IX_4 := Lib.hid (IX_3.out.keep k4)
  have XL_4 := Lib.hid (XL_3.out.keep k4)
  have XU_4 := Lib.hid (XU_3.out.keep k4)
  have IY_4 := Lib.hid (IY_3.out.keep k4)
  have YL_4 := Lib.hid (YL_3.out.keep k4)
  have YU_4 := Lib.hid (YU_3.out.keep k4)
  have M0_4 := Lib.hid hM
  have KW_4 := Lib.hid (KW_3.out.trans k4)
  clear k4 BX_3 BY_3 T_3 IX_3 XL_3 XU_3 IY_3 YL_3 YU_3 hM KW_3
  obtain ⟨mlb, mla, mln, mlc, mlh, mlm, mlg, mub, mua, mun, muc, muh, mum, mug, rfl, hM2⟩ := ICr.fv M0_4.out
  obtain ⟨hml, hmu⟩ := hM2.lo
  have ML_4 := Lib.hid hml
  have MH_4 := Lib.hid hmu
  clear hM2 hml hmu MU M0_4
  have BX_5 := Lib.hid (BX_4.out.keep (Keep.alloc (Keep.refl _) (.cells #[.bool mlb, .slice mla mln mlc, .slice mlh mlm mlg, .bool mub, .slice mua mun muc, .slice muh mum mug] 35)))
  have BY_5 := Lib.hid (BY_4.out.keep (Keep.alloc (Keep.refl _) (.cells #[.bool mlb, .slice mla mln mlc, .slice mlh mlm mlg, .bool mub, .slice mua mun muc, .slice muh mum mug] 35)))
  have T_5 := Lib.hid (T_4.out.keep (Keep.alloc (Keep.refl _) (.cells #[.bool mlb, .slice mla mln mlc, .slice mlh mlm mlg, .bool mub, .slice mua mun muc, .slice muh mum mug] 35)))
  have IX_5 := Lib.hid (IX_4.out.keep (Keep.alloc (Keep.refl _) (.cells #[.bool mlb, .slice mla mln mlc, .slice mlh mlm mlg, .bool mub, .slice mua mun muc, .slice muh mum mug] 35)))
  have XL_5 := Lib.hid (XL_4.out.keep (Keep.alloc (Keep.refl _) (.cells #[.bool mlb, .slice mla mln mlc, .slice mlh mlm mlg, .bool mub, .slice mua mun muc, .slice muh mum mug] 35)))
  have XU_5 := Lib.hid (XU_4.out.keep (Keep.alloc (Keep.refl _) (.cells #[.bool mlb, .slice mla mln mlc, .slice mlh mlm mlg, .bool mub, .slice mua mun muc, .slice muh mum mug] 35)))
  have IY_5 := Lib.hid (IY_4.out.keep (Keep.alloc (Keep.refl _) (.cells #[.bool mlb, .slice mla mln mlc, .slice mlh mlm mlg, .bool mub, .slice mua mun muc, .slice muh mum mug] 35)))
  have YL_5 := Lib.hid (YL_4.out.keep (Keep.alloc (Keep.refl _) (.cells #[.bool mlb, .slice mla mln mlc, .slice mlh mlm mlg, .bool mub, .slice mua mun muc, .slice muh mum mug] 35)))
  have YU_5 := Lib.hid (YU_4.out.keep (Keep.alloc (Keep.refl _) (.cells #[.bool mlb, .slice mla mln mlc, .slice mlh mlm mlg, .bool mub, .slice mua mun muc, .slice muh mum mug] 35)))
  have ML_5 := Lib.hid (ML_4.out.keep (Keep.alloc (Keep.refl _) (.cells #[.bool mlb, .slice mla mln mlc, .slice mlh mlm mlg, .bool mub, .slice mua mun muc, .slice muh mum mug] 35)))
  have MH_5 := Lib.hid (MH_4.out.keep (Keep.alloc (Keep.refl _) (.cells #[.bool mlb, .slice mla mln mlc, .slice mlh mlm mlg, .bool mub, .slice mua mun muc, .slice muh mum mug] 35)))
  have KW_5 := Lib.hid (KW_4.out.trans (Keep.alloc (Keep.refl _) (.cells #[.bool mlb, .slice mla mln mlc, .slice mlh mlm mlg, .bool mub, .slice mua mun muc, .slice muh mum mug] 35)))
  have BP_5 := Lib.hid (show Bx w4.heap.size [.bool mlb, .slice mla mln mlc, .slice mlh mlm mlg, .bool mub, .slice mua mun muc, .slice muh mum mug] (w4.alloc (.cells #[.bool mlb, .slice mla mln mlc, .slice mlh mlm mlg, .bool mub, .slice mua mun muc, .slice muh mum mug] 35)) from Bx.new w4 35 (.b _ (.s _ _ _ (.s _ _ _ (.b _ (.s _ _ _ (.s _ _ _ .nil)))))))
  clear BX_4 BY_4 T_4 IX_4 XL_4 XU_4 IY_4 YL_4 YU_4 ML_4 MH_4 KW_4
  have SK : Hid (∀ wk : World, Keep ((w4.alloc (.cells #[.bool mlb, .slice mla mln mlc, .slice mlh mlm mlg, .bool mub, .slice mua mun muc, .slice muh mum mug] 35)).drew) wk → wk.cell? ⟨w.heap.size, 0, none⟩ = some (.bool xlb) ∧ wk.cell? ⟨w.heap.size, 1, none⟩ = some (.slice xla xln xlc) ∧ wk.cell? ⟨w.heap.size, 2, none⟩ = some (.slice xlh xlm xlg) ∧ wk.cell? ⟨w.heap.size, 3, none⟩ = some (.bool xub) ∧ wk.cell? ⟨w.heap.size, 4, none⟩ = some (.slice xua xun xuc) ∧ wk.cell? ⟨w.heap.size, 5, none⟩ = some (.slice xuh xum xug) ∧ wk.cell? ⟨w.heap.size + 1, 0, none⟩ = some (.bool ylb) ∧ wk.cell? ⟨w.heap.size + 1, 1, none⟩ = some (.slice yla yln ylc) ∧ wk.cell? ⟨w.heap.size + 1, 2, none⟩ = some (.slice ylh ylm ylg) ∧ wk.cell? ⟨w.heap.size + 1, 3, none⟩ = some (.bool yub) ∧ wk.cell? ⟨w.heap.size + 1, 4, none⟩ = some (.slice yua yun yuc) ∧ wk.cell? ⟨w.heap.size + 1, 5, none⟩ = some (.slice yuh yum yug)) := Lib.hid (fun wk h => ⟨((BX_5.out.keep (keep_drew _)).keep h).cl 0 _ rfl, ((BX_5.out.keep (keep_drew _)).keep h).cl 1 _ rfl, ((BX_5.out.keep (keep_drew _)).keep h).cl 2 _ rfl, ((BX_5.out.keep (keep_drew _)).keep h).cl 3 _ rfl, ((BX_5.out.keep (keep_drew _)).keep h).cl 4 _ rfl, ((BX_5.out.keep (keep_drew _)).keep h).cl 5 _ rfl, ((BY_5.out.keep (keep_drew _)).keep h).cl 0 _ rfl, ((BY_5.out.keep (keep_drew _)).keep h).cl 1 _ rfl, ((BY_5.out.keep (keep_drew _)).keep h).cl 2 _ rfl, ((BY_5.out.keep (keep_drew _)).keep h).cl 3 _ rfl, ((BY_5.out.keep (keep_drew _)).keep h).cl 4 _ rfl, ((BY_5.out.keep (keep_drew _)).keep h).cl 5 _ rfl⟩)
  have k0_0 : Keep ((w4.alloc (.cells #[.bool mlb, .slice mla mln mlc, .slice mlh mlm mlg, .bool mub, .slice mua mun muc, .slice muh mum mug] 35)).drew) ((w4.alloc (.cells #[.bool mlb, .slice mla mln mlc, .slice mlh mlm mlg, .bool mub, .slice mua mun muc, .slice muh mum mug] 35)).drew) := Keep.refl _
  have k0_1 : Keep ((w4.alloc (.cells #[.bool mlb, .slice mla mln mlc, .slice mlh mlm mlg, .bool mub, .slice mua mun muc, .slice muh mum mug] 35)).drew) (((w4.alloc (.cells #[.bool mlb, .slice mla mln mlc, .slice mlh mlm mlg, .bool mub, .slice mua mun muc, .slice muh mum mug] 35)).alloc (.cells #[.bool false, .slice none 0 0, .slice none 0 0, .bool false, .slice none 0 0, .slice none 0 0, .bool false, .slice none 0 0, .slice none 0 0, .bool false, .slice none 0 0, .slice none 0 0] 50)).drew) := show Keep ((w4.alloc (.cells #[.bool mlb, .slice mla mln mlc, .slice mlh mlm mlg, .bool mub, .slice mua mun muc, .slice muh mum mug] 35)).drew) (((w4.alloc (.cells #[.bool mlb, .slice mla mln mlc, .slice mlh mlm mlg, .bool mub, .slice mua mun muc, .slice muh mum mug] 35)).drew).alloc (.cells #[.bool false, .slice none 0 0, .slice none 0 0, .bool false, .slice none 0 0, .slice none 0 0, .bool false, .slice none 0 0, .slice none 0 0, .bool false, .slice none 0 0, .slice none 0 0] 50)) from (Keep.alloc (Keep.refl _) _)
  go_upto_region 6 with fail
  go_cut [6] (fun sv wc => Arr4 ((w4.alloc (.cells #[.bool mlb, .slice mla mln mlc, .slice mlh mlm mlg, .bool mub, .slice mua mun muc, .slice muh mum mug] 35)).drew) (w4.heap.size + 1) P1 P2 P3 P4 sv wc)
  case first =>
    obtain ⟨cz_0, cz_1, cz_2, cz_3, cz_4, cz_5, cz_6, cz_7, cz_8, cz_9, cz_10, cz_11⟩ := SK.out _ (Keep.refl _)
    go_wp2
    go_region_held3 (fun w' => w'.cell? ⟨w.heap.size, 0, none⟩ = some (.bool xlb) ∧ w'.cell? ⟨w.heap.size, 1, none⟩ = some (.slice xla xln xlc) ∧ w'.cell? ⟨w.heap.size, 2, none⟩ = some (.slice xlh xlm xlg) ∧ w'.cell? ⟨w.heap.size, 3, none⟩ = some (.bool xub) ∧ w'.cell? ⟨w.heap.size, 4, none⟩ = some (.slice xua xun xuc) ∧ w'.cell? ⟨w.heap.size, 5, none⟩ = some (.slice xuh xum xug) ∧ w'.cell? ⟨w.heap.size + 1, 0, none⟩ = some (.bool ylb) ∧ w'.cell? ⟨w.heap.size + 1, 1, none⟩ = some (.slice yla yln ylc) ∧ w'.cell? ⟨w.heap.size + 1, 2, none⟩ = some (.slice ylh ylm ylg) ∧ w'.cell? ⟨w.heap.size + 1, 3, none⟩ = some (.bool yub) ∧ w'.cell? ⟨w.heap.size + 1, 4, none⟩ = some (.slice yua yun yuc) ∧ w'.cell? ⟨w.heap.size + 1, 5, none⟩ = some (.slice yuh yum yug)) (first | with_reducible exact ⟨cz_0, cz_1, cz_2, cz_3, cz_4, cz_5, cz_6, cz_7, cz_8, cz_9, cz_10, cz_11⟩ | with_reducible exact SK.out _ k0_1 | with_reducible exact SK.out _ hW_4 | with_reducible exact SK.out _ (Keep.alloc hW_4 _) | with_reducible exact SK.out _ hW_3 | with_reducible exact SK.out _ (Keep.alloc hW_3 _) | with_reducible exact SK.out _ hW_2 | with_reducible exact SK.out _ (Keep.alloc hW_2 _) | with_reducible exact SK.out _ hW_1 | with_reducible exact SK.out _ (Keep.alloc hW_1 _) | (refine SK.out _ ?_; (repeat' (first | with_reducible exact Keep.refl _ | with_reducible assumption | with_reducible refine Keep.alloc ?_ _ | with_reducible refine Keep.drew ?_ | (with_reducible refine keep_set ?_ ?_ _) | (with_reducible refine Keep.trans ?_ (by with_reducible assumption))))) | go_keep)
      (first
        | (go_at_call 31; ((have mark := mk_3_100); (with_reducible refine Calls.mono (C4.out _ ((XU_5.out.keep (keep_drew _)).keep (hW_3)) ((YU_5.out.keep (keep_drew _)).keep (hW_3))) ?_); rintro e v4 ⟨z4, rfl, hA4, k4⟩; (have hW_4 : Keep ((w4.alloc (.cells #[.bool mlb, .slice mla mln mlc, .slice mlh mlm mlg, .bool mub, .slice mua mun muc, .slice muh mum mug] 35)).drew) v4 := Keep.trans (hW_3) k4); (have hc_1_4 : Keep v1 v4 := Keep.trans (hc_1_3) k4); (have hc_2_4 : Keep v2 v4 := Keep.trans (hc_2_3) k4); (have hc_3_4 : Keep v3 v4 := Keep.trans (Keep.refl _) k4); (have A4_r := Lib.hid hA4); clear hA4; (have mk_4_1000 := trivial); (have NB_4 := Lib.hid (NB_3.out.keep hc_3_4)); obtain ⟨o1b, o1a, o1n, o1c, o1h, o1m, o1g, rfl, hq1⟩ := Cr.fv (A1_r.out.keep hc_1_4); obtain ⟨o2b, o2a, o2n, o2c, o2h, o2m, o2g, rfl, hq2⟩ := Cr.fv (A2_r.out.keep hc_2_4); obtain ⟨o3b, o3a, o3n, o3c, o3h, o3m, o3g, rfl, hq3⟩ := Cr.fv (A3_r.out.keep hc_3_4); obtain ⟨o4b, o4a, o4n, o4c, o4h, o4m, o4g, rfl, hq4⟩ := Cr.fv (A4_r.out); have HQ1 := Lib.hid hq1; have HQ2 := Lib.hid hq2; have HQ3 := Lib.hid hq3; have HQ4 := Lib.hid hq4; clear hq1 hq2 hq3 hq4 A1_r A2_r A3_r A4_r; (have P0 := NB_4.out); obtain ⟨p0_0, p0_1, p0_2, p0_3, p0_4, p0_5, p0_6, p0_7, p0_8, p0_9, p0_10, p0_11, p0_12, p0_13, p0_14, p0_15, p0_16, p0_17, p0_18, p0_19, p0_20, p0_21, p0_22, p0_23⟩ := P0.c12; (have hs0 : ((w4.alloc (.cells #[.bool mlb, .slice mla mln mlc, .slice mlh mlm mlg, .bool mub, .slice mua mun muc, .slice muh mum mug] 35)).drew).heap.size ≤ w4.heap.size + 1 := by simp); (have FIN := Lib.hid ((arr4_pre HQ1.out HQ2.out HQ3.out HQ4.out hW_4 (show w4.heap.size + 1 ≤ ((w4.alloc (.cells #[.bool mlb, .slice mla mln mlc, .slice mlh mlm mlg, .bool mub, .slice mua mun muc, .slice muh mum mug] 35)).drew).heap.size from by simp) P0 rfl hs0 : Arr4 ((w4.alloc (.cells #[.bool mlb, .slice mla mln mlc, .slice mlh mlm mlg, .bool mub, .slice mua mun muc, .slice muh mum mug] 35)).drew) (w4.heap.size + 1) P1 P2 P3 P4 (.pointer (some ⟨w4.heap.size + 1, 0, none⟩)) (((((((((((((v4.setCell ⟨w4.heap.size + 1, 0, none⟩ (.bool o1b)).setCell ⟨w4.heap.size + 1, 1, none⟩ (.slice o1a o1n o1c)).setCell ⟨w4.heap.size + 1, 2, none⟩ (.slice o1h o1m o1g)).setCell ⟨w4.heap.size + 1, 3, none⟩ (.bool o2b)).setCell ⟨w4.heap.size + 1, 4, none⟩ (.slice o2a o2n o2c)).setCell ⟨w4.heap.size + 1, 5, none⟩ (.slice o2h o2m o2g)).setCell ⟨w4.heap.size + 1, 6, none⟩ (.bool o3b)).setCell ⟨w4.heap.size + 1, 7, none⟩ (.slice o3a o3n o3c)).setCell ⟨w4.heap.size + 1, 8, none⟩ (.slice o3h o3m o3g)).setCell ⟨w4.heap.size + 1, 9, none⟩ (.bool o4b)).setCell ⟨w4.heap.size + 1, 10, none⟩ (.slice o4a o4n o4c)).setCell ⟨w4.heap.size + 1, 11, none⟩ (.slice o4h o4m o4g)))))); clear P0))
        | (go_at_call 31; ((have mark := mk_3_010); (with_reducible refine Calls.mono (C4.out _ ((XU_5.out.keep (keep_drew _)).keep (hW_3)) ((YU_5.out.keep (keep_drew _)).keep (hW_3))) ?_); rintro e v4 ⟨z4, rfl, hA4, k4⟩; (have hW_4 : Keep ((w4.alloc (.cells #[.bool mlb, .slice mla mln mlc, .slice mlh mlm mlg, .bool mub, .slice mua mun muc, .slice muh mum mug] 35)).drew) v4 := Keep.trans (hW_3) k4); (have hc_1_4 : Keep v1 v4 := Keep.trans (hc_1_3) k4); (have hc_2_4 : Keep v2 v4 := Keep.trans (hc_2_3) k4); (have hc_3_4 : Keep v3 v4 := Keep.trans (Keep.refl _) k4); (have A4_r := Lib.hid hA4); clear hA4; (have mk_4_0100 := trivial); (have NB_4 := Lib.hid (NB_3.out.keep hc_3_4)); obtain ⟨o1b, o1a, o1n, o1c, o1h, o1m, o1g, rfl, hq1⟩ := Cr.fv (A1_r.out.keep hc_1_4); obtain ⟨o2b, o2a, o2n, o2c, o2h, o2m, o2g, rfl, hq2⟩ := Cr.fv (A2_r.out.keep hc_2_4); obtain ⟨o3b, o3a, o3n, o3c, o3h, o3m, o3g, rfl, hq3⟩ := Cr.fv (A3_r.out.keep hc_3_4); obtain ⟨o4b, o4a, o4n, o4c, o4h, o4m, o4g, rfl, hq4⟩ := Cr.fv (A4_r.out); have HQ1 := Lib.hid hq1; have HQ2 := Lib.hid hq2; have HQ3 := Lib.hid hq3; have HQ4 := Lib.hid hq4; clear hq1 hq2 hq3 hq4 A1_r A2_r A3_r A4_r; (have P0 := NB_4.out); obtain ⟨p0_0, p0_1, p0_2, p0_3, p0_4, p0_5, p0_6, p0_7, p0_8, p0_9, p0_10, p0_11, p0_12, p0_13, p0_14, p0_15, p0_16, p0_17, p0_18, p0_19, p0_20, p0_21, p0_22, p0_23⟩ := P0.c12; (have hs0 : ((w4.alloc (.cells #[.bool mlb, .slice mla mln mlc, .slice mlh mlm mlg, .bool mub, .slice mua mun muc, .slice muh mum mug] 35)).drew).heap.size ≤ v1.heap.size := (by have h9 := Below.size hW_1; exact h9)); (have FIN := Lib.hid ((arr4_pre HQ1.out HQ2.out HQ3.out HQ4.out hW_4 (show w4.heap.size + 1 ≤ ((w4.alloc (.cells #[.bool mlb, .slice mla mln mlc, .slice mlh mlm mlg, .bool mub, .slice mua mun muc, .slice muh mum mug] 35)).drew).heap.size from by simp) P0 rfl hs0 : Arr4 ((w4.alloc (.cells #[.bool mlb, .slice mla mln mlc, .slice mlh mlm mlg, .bool mub, .slice mua mun muc, .slice muh mum mug] 35)).drew) (w4.heap.size + 1) P1 P2 P3 P4 (.pointer (some ⟨v1.heap.size, 0, none⟩)) (((((((((((((v4.setCell ⟨v1.heap.size, 0, none⟩ (.bool o1b)).setCell ⟨v1.heap.size, 1, none⟩ (.slice o1a o1n o1c)).setCell ⟨v1.heap.size, 2, none⟩ (.slice o1h o1m o1g)).setCell ⟨v1.heap.size, 3, none⟩ (.bool o2b)).setCell ⟨v1.heap.size, 4, none⟩ (.slice o2a o2n o2c)).setCell ⟨v1.heap.size, 5, none⟩ (.slice o2h o2m o2g)).setCell ⟨v1.heap.size, 6, none⟩ (.bool o3b)).setCell ⟨v1.heap.size, 7, none⟩ (.slice o3a o3n o3c)).setCell ⟨v1.heap.size, 8, none⟩ (.slice o3h o3m o3g)).setCell ⟨v1.heap.size, 9, none⟩ (.bool o4b)).setCell ⟨v1.heap.size, 10, none⟩ (.slice o4a o4n o4c)).setCell ⟨v1.heap.size, 11, none⟩ (.slice o4h o4m o4g)))))); clear P0))
        | (go_at_call 31; ((have mark := mk_3_001); (with_reducible refine Calls.mono (C4.out _ ((XU_5.out.keep (keep_drew _)).keep (hW_3)) ((YU_5.out.keep (keep_drew _)).keep (hW_3))) ?_); rintro e v4 ⟨z4, rfl, hA4, k4⟩; (have hW_4 : Keep ((w4.alloc (.cells #[.bool mlb, .slice mla mln mlc, .slice mlh mlm mlg, .bool mub, .slice mua mun muc, .slice muh mum mug] 35)).drew) v4 := Keep.trans (hW_3) k4); (have hc_1_4 : Keep v1 v4 := Keep.trans (hc_1_3) k4); (have hc_2_4 : Keep v2 v4 := Keep.trans (hc_2_3) k4); (have hc_3_4 : Keep v3 v4 := Keep.trans (Keep.refl _) k4); (have A4_r := Lib.hid hA4); clear hA4; (have mk_4_0010 := trivial); (have NB_4 := Lib.hid (NB_3.out.keep hc_3_4)); obtain ⟨o1b, o1a, o1n, o1c, o1h, o1m, o1g, rfl, hq1⟩ := Cr.fv (A1_r.out.keep hc_1_4); obtain ⟨o2b, o2a, o2n, o2c, o2h, o2m, o2g, rfl, hq2⟩ := Cr.fv (A2_r.out.keep hc_2_4); obtain ⟨o3b, o3a, o3n, o3c, o3h, o3m, o3g, rfl, hq3⟩ := Cr.fv (A3_r.out.keep hc_3_4); obtain ⟨o4b, o4a, o4n, o4c, o4h, o4m, o4g, rfl, hq4⟩ := Cr.fv (A4_r.out); have HQ1 := Lib.hid hq1; have HQ2 := Lib.hid hq2; have HQ3 := Lib.hid hq3; have HQ4 := Lib.hid hq4; clear hq1 hq2 hq3 hq4 A1_r A2_r A3_r A4_r; (have P0 := NB_4.out); obtain ⟨p0_0, p0_1, p0_2, p0_3, p0_4, p0_5, p0_6, p0_7, p0_8, p0_9, p0_10, p0_11, p0_12, p0_13, p0_14, p0_15, p0_16, p0_17, p0_18, p0_19, p0_20, p0_21, p0_22, p0_23⟩ := P0.c12; (have hs0 : ((w4.alloc (.cells #[.bool mlb, .slice mla mln mlc, .slice mlh mlm mlg, .bool mub, .slice mua mun muc, .slice muh mum mug] 35)).drew).heap.size ≤ v2.heap.size := (by have h9 := Below.size hW_2; exact h9)); (have FIN := Lib.hid ((arr4_pre HQ1.out HQ2.out HQ3.out HQ4.out hW_4 (show w4.heap.size + 1 ≤ ((w4.alloc (.cells #[.bool mlb, .slice mla mln mlc, .slice mlh mlm mlg, .bool mub, .slice mua mun muc, .slice muh mum mug] 35)).drew).heap.size from by simp) P0 rfl hs0 : Arr4 ((w4.alloc (.cells #[.bool mlb, .slice mla mln mlc, .slice mlh mlm mlg, .bool mub, .slice mua mun muc, .slice muh mum mug] 35)).drew) (w4.heap.size + 1) P1 P2 P3 P4 (.pointer (some ⟨v2.heap.size, 0, none⟩)) (((((((((((((v4.setCell ⟨v2.heap.size, 0, none⟩ (.bool o1b)).setCell ⟨v2.heap.size, 1, none⟩ (.slice o1a o1n o1c)).setCell ⟨v2.heap.size, 2, none⟩ (.slice o1h o1m o1g)).setCell ⟨v2.heap.size, 3, none⟩ (.bool o2b)).setCell ⟨v2.heap.size, 4, none⟩ (.slice o2a o2n o2c)).setCell ⟨v2.heap.size, 5, none⟩ (.slice o2h o2m o2g)).setCell ⟨v2.heap.size, 6, none⟩ (.bool o3b)).setCell ⟨v2.heap.size, 7, none⟩ (.slice o3a o3n o3c)).setCell ⟨v2.heap.size, 8, none⟩ (.slice o3h o3m o3g)).setCell ⟨v2.heap.size, 9, none⟩ (.bool o4b)).setCell ⟨v2.heap.size, 10, none⟩ (.slice o4a o4n o4c)).setCell ⟨v2.heap.size, 11, none⟩ (.slice o4h o4m o4g)))))); clear P0))
        | (go_at_call 31; ((have mark := mk_3_000); (with_reducible refine Calls.mono (C4.out _ ((XU_5.out.keep (keep_drew _)).keep (Keep.alloc (hW_3) _)) ((YU_5.out.keep (keep_drew _)).keep (Keep.alloc (hW_3) _))) ?_); rintro e v4 ⟨z4, rfl, hA4, k4⟩; (have hW_4 : Keep ((w4.alloc (.cells #[.bool mlb, .slice mla mln mlc, .slice mlh mlm mlg, .bool mub, .slice mua mun muc, .slice muh mum mug] 35)).drew) v4 := Keep.trans (Keep.alloc (hW_3) _) k4); (have hc_1_4 : Keep v1 v4 := Keep.trans (Keep.alloc (hc_1_3) _) k4); (have hc_2_4 : Keep v2 v4 := Keep.trans (Keep.alloc (hc_2_3) _) k4); (have hc_3_4 : Keep v3 v4 := Keep.trans (Keep.alloc (Keep.refl _) _) k4); (have A4_r := Lib.hid hA4); clear hA4; (have mk_4_0001 := trivial); (have NB_4 := Lib.hid (show Bx (v3.heap.size) [.bool false, .slice none 0 0, .slice none 0 0, .bool false, .slice none 0 0, .slice none 0 0, .bool false, .slice none 0 0, .slice none 0 0, .bool false, .slice none 0 0, .slice none 0 0] v4 from ((Bx.new v3 50 (l := [.bool false, .slice none 0 0, .slice none 0 0, .bool false, .slice none 0 0, .slice none 0 0, .bool false, .slice none 0 0, .slice none 0 0, .bool false, .slice none 0 0, .slice none 0 0]) (.b _ (.s _ _ _ (.s _ _ _ (.b _ (.s _ _ _ (.s _ _ _ (.b _ (.s _ _ _ (.s _ _ _ (.b _ (.s _ _ _ (.s _ _ _ .nil))))))))))))).at (g' := v3.heap.size) (by simp)).keep (show Keep (v3.alloc (.cells #[.bool false, .slice none 0 0, .slice none 0 0, .bool false, .slice none 0 0, .slice none 0 0, .bool false, .slice none 0 0, .slice none 0 0, .bool false, .slice none 0 0, .slice none 0 0] 50)) v4 from Keep.trans (Keep.refl _) k4))); obtain ⟨o1b, o1a, o1n, o1c, o1h, o1m, o1g, rfl, hq1⟩ := Cr.fv (A1_r.out.keep hc_1_4); obtain ⟨o2b, o2a, o2n, o2c, o2h, o2m, o2g, rfl, hq2⟩ := Cr.fv (A2_r.out.keep hc_2_4); obtain ⟨o3b, o3a, o3n, o3c, o3h, o3m, o3g, rfl, hq3⟩ := Cr.fv (A3_r.out.keep hc_3_4); obtain ⟨o4b, o4a, o4n, o4c, o4h, o4m, o4g, rfl, hq4⟩ := Cr.fv (A4_r.out); have HQ1 := Lib.hid hq1; have HQ2 := Lib.hid hq2; have HQ3 := Lib.hid hq3; have HQ4 := Lib.hid hq4; clear hq1 hq2 hq3 hq4 A1_r A2_r A3_r A4_r; (have P0 := NB_4.out); obtain ⟨p0_0, p0_1, p0_2, p0_3, p0_4, p0_5, p0_6, p0_7, p0_8, p0_9, p0_10, p0_11, p0_12, p0_13, p0_14, p0_15, p0_16, p0_17, p0_18, p0_19, p0_20, p0_21, p0_22, p0_23⟩ := P0.c12; (have hs0 : ((w4.alloc (.cells #[.bool mlb, .slice mla mln mlc, .slice mlh mlm mlg, .bool mub, .slice mua mun muc, .slice muh mum mug] 35)).drew).heap.size ≤ v3.heap.size := (by have h9 := Below.size hW_3; exact h9)); (have FIN := Lib.hid ((arr4_pre HQ1.out HQ2.out HQ3.out HQ4.out hW_4 (show w4.heap.size + 1 ≤ ((w4.alloc (.cells #[.bool mlb, .slice mla mln mlc, .slice mlh mlm mlg, .bool mub, .slice mua mun muc, .slice muh mum mug] 35)).drew).heap.size from by simp) P0 rfl hs0 : Arr4 ((w4.alloc (.cells #[.bool mlb, .slice mla mln mlc, .slice mlh mlm mlg, .bool mub, .slice mua mun muc, .slice muh mum mug] 35)).drew) (w4.heap.size + 1) P1 P2 P3 P4 (.pointer (some ⟨v3.heap.size, 0, none⟩)) (((((((((((((v4.setCell ⟨v3.heap.size, 0, none⟩ (.bool o1b)).setCell ⟨v3.heap.size, 1, none⟩ (.slice o1a o1n o1c)).setCell ⟨v3.heap.size, 2, none⟩ (.slice o1h o1m o1g)).setCell ⟨v3.heap.size, 3, none⟩ (.bool o2b)).setCell ⟨v3.heap.size, 4, none⟩ (.slice o2a o2n o2c)).setCell ⟨v3.heap.size, 5, none⟩ (.slice o2h o2m o2g)).setCell ⟨v3.heap.size, 6, none⟩ (.bool o3b)).setCell ⟨v3.heap.size, 7, none⟩ (.slice o3a o3n o3c)).setCell ⟨v3.heap.size, 8, none⟩ (.slice o3h o3m o3g)).setCell ⟨v3.heap.size, 9, none⟩ (.bool o4b)).setCell ⟨v3.heap.size, 10, none⟩ (.slice o4a o4n o4c)).setCell ⟨v3.heap.size, 11, none⟩ (.slice o4h o4m o4g)))))); clear P0))
        | (go_at_call 31; ((have mark := mk_3_000); (with_reducible refine Calls.mono (C4.out _ ((XU_5.out.keep (keep_drew _)).keep (hW_3)) ((YU_5.out.keep (keep_drew _)).keep (hW_3))) ?_); rintro e v4 ⟨z4, rfl, hA4, k4⟩; (have hW_4 : Keep ((w4.alloc (.cells #[.bool mlb, .slice mla mln mlc, .slice mlh mlm mlg, .bool mub, .slice mua mun muc, .slice muh mum mug] 35)).drew) v4 := Keep.trans (hW_3) k4); (have hc_1_4 : Keep v1 v4 := Keep.trans (hc_1_3) k4); (have hc_2_4 : Keep v2 v4 := Keep.trans (hc_2_3) k4); (have hc_3_4 : Keep v3 v4 := Keep.trans (Keep.refl _) k4); (have A4_r := Lib.hid hA4); clear hA4; (have mk_4_0000 := trivial); obtain ⟨o1b, o1a, o1n, o1c, o1h, o1m, o1g, rfl, hq1⟩ := Cr.fv (A1_r.out.keep hc_1_4); obtain ⟨o2b, o2a, o2n, o2c, o2h, o2m, o2g, rfl, hq2⟩ := Cr.fv (A2_r.out.keep hc_2_4); obtain ⟨o3b, o3a, o3n, o3c, o3h, o3m, o3g, rfl, hq3⟩ := Cr.fv (A3_r.out.keep hc_3_4); obtain ⟨o4b, o4a, o4n, o4c, o4h, o4m, o4g, rfl, hq4⟩ := Cr.fv (A4_r.out); have HQ1 := Lib.hid hq1; have HQ2 := Lib.hid hq2; have HQ3 := Lib.hid hq3; have HQ4 := Lib.hid hq4; clear hq1 hq2 hq3 hq4 A1_r A2_r A3_r A4_r; obtain ⟨n0_0, n0_1, n0_2, n0_3, n0_4, n0_5, n0_6, n0_7, n0_8, n0_9, n0_10, n0_11, n0_12, n0_13, n0_14, n0_15, n0_16, n0_17, n0_18, n0_19, n0_20, n0_21, n0_22, n0_23⟩ := (Bx.new v4 50 (l := [.bool false, .slice none 0 0, .slice none 0 0, .bool false, .slice none 0 0, .slice none 0 0, .bool false, .slice none 0 0, .slice none 0 0, .bool false, .slice none 0 0, .slice none 0 0]) (.b _ (.s _ _ _ (.s _ _ _ (.b _ (.s _ _ _ (.s _ _ _ (.b _ (.s _ _ _ (.s _ _ _ (.b _ (.s _ _ _ (.s _ _ _ .nil))))))))))))).c12; (have FIN := Lib.hid ((arr4_new HQ1.out HQ2.out HQ3.out HQ4.out hW_4 (show w4.heap.size + 1 ≤ ((w4.alloc (.cells #[.bool mlb, .slice mla mln mlc, .slice mlh mlm mlg, .bool mub, .slice mua mun muc, .slice muh mum mug] 35)).drew).heap.size from by simp) : Arr4 ((w4.alloc (.cells #[.bool mlb, .slice mla mln mlc, .slice mlh mlm mlg, .bool mub, .slice mua mun muc, .slice muh mum mug] 35)).drew) (w4.heap.size + 1) P1 P2 P3 P4 (.pointer (some ⟨v4.heap.size, 0, none⟩)) (v4.alloc (.cells #[.bool o1b, .slice o1a o1n o1c, .slice o1h o1m o1g, .bool o2b, .slice o2a o2n o2c, .slice o2h o2m o2g, .bool o3b, .slice o3a o3n o3c, .slice o3h o3m o3g, .bool o4b, .slice o4a o4n o4c, .slice o4h o4m o4g] 50)))))))
        | (go_at_call 31; ((have mark := mk_2_10); (with_reducible refine Calls.mono (C3.out _ ((XU_5.out.keep (keep_drew _)).keep (hW_2)) ((YL_5.out.keep (keep_drew _)).keep (hW_2))) ?_); rintro e v3 ⟨z3, rfl, hA3, k3⟩; (have hW_3 : Keep ((w4.alloc (.cells #[.bool mlb, .slice mla mln mlc, .slice mlh mlm mlg, .bool mub, .slice mua mun muc, .slice muh mum mug] 35)).drew) v3 := Keep.trans (hW_2) k3); (have hc_1_3 : Keep v1 v3 := Keep.trans (hc_1_2) k3); (have hc_2_3 : Keep v2 v3 := Keep.trans (Keep.refl _) k3); (have A3_r := Lib.hid hA3); clear hA3; (have mk_3_100 := trivial); (have NB_3 := Lib.hid (NB_2.out.keep hc_2_3))))
        | (go_at_call 31; ((have mark := mk_2_01); (with_reducible refine Calls.mono (C3.out _ ((XU_5.out.keep (keep_drew _)).keep (hW_2)) ((YL_5.out.keep (keep_drew _)).keep (hW_2))) ?_); rintro e v3 ⟨z3, rfl, hA3, k3⟩; (have hW_3 : Keep ((w4.alloc (.cells #[.bool mlb, .slice mla mln mlc, .slice mlh mlm mlg, .bool mub, .slice mua mun muc, .slice muh mum mug] 35)).drew) v3 := Keep.trans (hW_2) k3); (have hc_1_3 : Keep v1 v3 := Keep.trans (hc_1_2) k3); (have hc_2_3 : Keep v2 v3 := Keep.trans (Keep.refl _) k3); (have A3_r := Lib.hid hA3); clear hA3; (have mk_3_010 := trivial); (have NB_3 := Lib.hid (NB_2.out.keep hc_2_3))))
        | (go_at_call 31; ((have mark := mk_2_00); (with_reducible refine Calls.mono (C3.out _ ((XU_5.out.keep (keep_drew _)).keep (Keep.alloc (hW_2) _)) ((YL_5.out.keep (keep_drew _)).keep (Keep.alloc (hW_2) _))) ?_); rintro e v3 ⟨z3, rfl, hA3, k3⟩; (have hW_3 : Keep ((w4.alloc (.cells #[.bool mlb, .slice mla mln mlc, .slice mlh mlm mlg, .bool mub, .slice mua mun muc, .slice muh mum mug] 35)).drew) v3 := Keep.trans (Keep.alloc (hW_2) _) k3); (have hc_1_3 : Keep v1 v3 := Keep.trans (Keep.alloc (hc_1_2) _) k3); (have hc_2_3 : Keep v2 v3 := Keep.trans (Keep.alloc (Keep.refl _) _) k3); (have A3_r := Lib.hid hA3); clear hA3; (have mk_3_001 := trivial); (have NB_3 := Lib.hid (show Bx (v2.heap.size) [.bool false, .slice none 0 0, .slice none 0 0, .bool false, .slice none 0 0, .slice none 0 0, .bool false, .slice none 0 0, .slice none 0 0, .bool false, .slice none 0 0, .slice none 0 0] v3 from ((Bx.new v2 50 (l := [.bool false, .slice none 0 0, .slice none 0 0, .bool false, .slice none 0 0, .slice none 0 0, .bool false, .slice none 0 0, .slice none 0 0, .bool false, .slice none 0 0, .slice none 0 0]) (.b _ (.s _ _ _ (.s _ _ _ (.b _ (.s _ _ _ (.s _ _ _ (.b _ (.s _ _ _ (.s _ _ _ (.b _ (.s _ _ _ (.s _ _ _ .nil))))))))))))).at (g' := v2.heap.size) (by simp)).keep (show Keep (v2.alloc (.cells #[.bool false, .slice none 0 0, .slice none 0 0, .bool false, .slice none 0 0, .slice none 0 0, .bool false, .slice none 0 0, .slice none 0 0, .bool false, .slice none 0 0, .slice none 0 0] 50)) v3 from Keep.trans (Keep.refl _) k3)))))
        | (go_at_call 31; ((have mark := mk_2_00); (with_reducible refine Calls.mono (C3.out _ ((XU_5.out.keep (keep_drew _)).keep (hW_2)) ((YL_5.out.keep (keep_drew _)).keep (hW_2))) ?_); rintro e v3 ⟨z3, rfl, hA3, k3⟩; (have hW_3 : Keep ((w4.alloc (.cells #[.bool mlb, .slice mla mln mlc, .slice mlh mlm mlg, .bool mub, .slice mua mun muc, .slice muh mum mug] 35)).drew) v3 := Keep.trans (hW_2) k3); (have hc_1_3 : Keep v1 v3 := Keep.trans (hc_1_2) k3); (have hc_2_3 : Keep v2 v3 := Keep.trans (Keep.refl _) k3); (have A3_r := Lib.hid hA3); clear hA3; (have mk_3_000 := trivial)))
        | (go_at_call 31; ((have mark := mk_1_1); (with_reducible refine Calls.mono (C2.out _ ((XL_5.out.keep (keep_drew _)).keep (hW_1)) ((YU_5.out.keep (keep_drew _)).keep (hW_1))) ?_); rintro e v2 ⟨z2, rfl, hA2, k2⟩; (have hW_2 : Keep ((w4.alloc (.cells #[.bool mlb, .slice mla mln mlc, .slice mlh mlm mlg, .bool mub, .slice mua mun muc, .slice muh mum mug] 35)).drew) v2 := Keep.trans (hW_1) k2); (have hc_1_2 : Keep v1 v2 := Keep.trans (Keep.refl _) k2); (have A2_r := Lib.hid hA2); clear hA2; (have mk_2_10 := trivial); (have NB_2 := Lib.hid (NB_1.out.keep hc_1_2))))
        | (go_at_call 31; ((have mark := mk_1_0); (with_reducible refine Calls.mono (C2.out _ ((XL_5.out.keep (keep_drew _)).keep (Keep.alloc (hW_1) _)) ((YU_5.out.keep (keep_drew _)).keep (Keep.alloc (hW_1) _))) ?_); rintro e v2 ⟨z2, rfl, hA2, k2⟩; (have hW_2 : Keep ((w4.alloc (.cells #[.bool mlb, .slice mla mln mlc, .slice mlh mlm mlg, .bool mub, .slice mua mun muc, .slice muh mum mug] 35)).drew) v2 := Keep.trans (Keep.alloc (hW_1) _) k2); (have hc_1_2 : Keep v1 v2 := Keep.trans (Keep.alloc (Keep.refl _) _) k2); (have A2_r := Lib.hid hA2); clear hA2; (have mk_2_01 := trivial); (have NB_2 := Lib.hid (show Bx (v1.heap.size) [.bool false, .slice none 0 0, .slice none 0 0, .bool false, .slice none 0 0, .slice none 0 0, .bool false, .slice none 0 0, .slice none 0 0, .bool false, .slice none 0 0, .slice none 0 0] v2 from ((Bx.new v1 50 (l := [.bool false, .slice none 0 0, .slice none 0 0, .bool false, .slice none 0 0, .slice none 0 0, .bool false, .slice none 0 0, .slice none 0 0, .bool false, .slice none 0 0, .slice none 0 0]) (.b _ (.s _ _ _ (.s _ _ _ (.b _ (.s _ _ _ (.s _ _ _ (.b _ (.s _ _ _ (.s _ _ _ (.b _ (.s _ _ _ (.s _ _ _ .nil))))))))))))).at (g' := v1.heap.size) (by simp)).keep (show Keep (v1.alloc (.cells #[.bool false, .slice none 0 0, .slice none 0 0, .bool false, .slice none 0 0, .slice none 0 0, .bool false, .slice none 0 0, .slice none 0 0, .bool false, .slice none 0 0, .slice none 0 0] 50)) v2 from Keep.trans (Keep.refl _) k2)))))
        | (go_at_call 31; ((have mark := mk_1_0); (with_reducible refine Calls.mono (C2.out _ ((XL_5.out.keep (keep_drew _)).keep (hW_1)) ((YU_5.out.keep (keep_drew _)).keep (hW_1))) ?_); rintro e v2 ⟨z2, rfl, hA2, k2⟩; (have hW_2 : Keep ((w4.alloc (.cells #[.bool mlb, .slice mla mln mlc, .slice mlh mlm mlg, .bool mub, .slice mua mun muc, .slice muh mum mug] 35)).drew) v2 := Keep.trans (hW_1) k2); (have hc_1_2 : Keep v1 v2 := Keep.trans (Keep.refl _) k2); (have A2_r := Lib.hid hA2); clear hA2; (have mk_2_00 := trivial)))
        | (go_at_call 31; ((with_reducible refine Calls.mono (C1.out _ ((XL_5.out.keep (keep_drew _)).keep k0_1) ((YL_5.out.keep (keep_drew _)).keep k0_1)) ?_); rintro e v1 ⟨z1, rfl, hA1, k1⟩; (have hW_1 : Keep ((w4.alloc (.cells #[.bool mlb, .slice mla mln mlc, .slice mlh mlm mlg, .bool mub, .slice mua mun muc, .slice muh mum mug] 35)).drew) v1 := Keep.trans k0_1 k1); (have A1_r := Lib.hid hA1); clear hA1; (have mk_1_1 := trivial); (have NB_1 := Lib.hid (show Bx (w4.heap.size + 1) [.bool false, .slice none 0 0, .slice none 0 0, .bool false, .slice none 0 0, .slice none 0 0, .bool false, .slice none 0 0, .slice none 0 0, .bool false, .slice none 0 0, .slice none 0 0] v1 from ((Bx.new (w4.alloc (.cells #[.bool mlb, .slice mla mln mlc, .slice mlh mlm mlg, .bool mub, .slice mua mun muc, .slice muh mum mug] 35)) 50 (l := [.bool false, .slice none 0 0, .slice none 0 0, .bool false, .slice none 0 0, .slice none 0 0, .bool false, .slice none 0 0, .slice none 0 0, .bool false, .slice none 0 0, .slice none 0 0]) (.b _ (.s _ _ _ (.s _ _ _ (.b _ (.s _ _ _ (.s _ _ _ (.b _ (.s _ _ _ (.s _ _ _ (.b _ (.s _ _ _ (.s _ _ _ .nil))))))))))))).at (g' := w4.heap.size + 1) (by simp)).keep (show Keep ((w4.alloc (.cells #[.bool mlb, .slice mla mln mlc, .slice mlh mlm mlg, .bool mub, .slice mua mun muc, .slice muh mum mug] 35)).alloc (.cells #[.bool false, .slice none 0 0, .slice none 0 0, .bool false, .slice none 0 0, .slice none 0 0, .bool false, .slice none 0 0, .slice none 0 0, .bool false, .slice none 0 0, .slice none 0 0] 50)) v1 from Keep.trans (Keep.drew (Keep.refl _)) k1)))))
        | (go_at_call 31; ((with_reducible refine Calls.mono (C1.out _ ((XL_5.out.keep (keep_drew _)).keep k0_0) ((YL_5.out.keep (keep_drew _)).keep k0_0)) ?_); rintro e v1 ⟨z1, rfl, hA1, k1⟩; (have hW_1 : Keep ((w4.alloc (.cells #[.bool mlb, .slice mla mln mlc, .slice mlh mlm mlg, .bool mub, .slice mua mun muc, .slice muh mum mug] 35)).drew) v1 := Keep.trans k0_0 k1); (have A1_r := Lib.hid hA1); clear hA1; (have mk_1_0 := trivial))))
    all_goals (go_wp2_with fail; go_meet; first | exact FIN.out | exact ⟨FIN.out.1, rfl⟩ | exact FIN.out.1)
  case rest =>
    obtain ⟨gA, o1b, o1a, o1h, o1n, o1c, o1m, o1g, o2b, o2a, o2h, o2n, o2c, o2m, o2g, o3b, o3a, o3h, o3n, o3c, o3m, o3g, o4b, o4a, o4h, o4n, o4c, o4m, o4g, rfl, hlo, hb, hq1, hq2, hq3, hq4, kx⟩ := hcut
    have ky : Keep (w4.alloc (.cells #[.bool mlb, .slice mla mln mlc, .slice mlh mlm mlg, .bool mub, .slice mua mun muc, .slice muh mum mug] 35)) wc := Keep.trans (keep_drew _) kx
    have HLO := Lib.hid hlo
    clear kx hlo SK k0_0 k0_1
    have BX_6 := Lib.hid (BX_5.out.keep ky)
    have BY_6 := Lib.hid (BY_5.out.keep ky)
    have T_6 := Lib.hid (T_5.out.keep ky)
    have IX_6 := Lib.hid (IX_5.out.keep ky)
    have XL_6 := Lib.hid (XL_5.out.keep ky)
    have XU_6 := Lib.hid (XU_5.out.keep ky)
    have IY_6 := Lib.hid (IY_5.out.keep ky)
    have YL_6 := Lib.hid (YL_5.out.keep ky)
    have YU_6 := Lib.hid (YU_5.out.keep ky)
    have ML_6 := Lib.hid (ML_5.out.keep ky)
    have MH_6 := Lib.hid (MH_5.out.keep ky)
    have BP_6 := Lib.hid (BP_5.out.keep ky)
    have PB_6 := Lib.hid hb
    have Q1_6 := Lib.hid hq1
    have Q2_6 := Lib.hid hq2
    have Q3_6 := Lib.hid hq3
    have Q4_6 := Lib.hid hq4
    have KW_6 := Lib.hid (KW_5.out.trans ky)
    clear ky BX_5 BY_5 T_5 IX_5 XL_5 XU_5 IY_5 YL_5 YU_5 ML_5 MH_5 BP_5 hb hq1 hq2 hq3 hq4 KW_5
    clear BX_6 BY_6 XL_6 XU_6 YL_6 YU_6 IX_6 IY_6 T_6
    clear C1 C2 C3 C4
    go_wp2_with fail
    go_loopw [7, 8, 9] (fun lo hi ii wr => ∃ k : Nat, k ≤ 4 ∧ ii = .int .i64 k ∧ lo = .bool (orN [b1, b2, b3, b4] k) ∧ hi = .bool (orN [c1, c2, c3, c4] k) ∧ Hid (Keep wc wr)) (fun _ _ ii _ => 4 - (intOf ii).toNat)
    case atStart => exact ⟨0, by omega, rfl, rfl, rfl, Lib.hid (Keep.refl _)⟩
    case round =>
      obtain ⟨k, hk, rfl, rfl, rfl, HK⟩ := hrel
      rcases (show k = 4 ∨ k = 0 ∨ k = 1 ∨ k = 2 ∨ k = 3 by omega) with rfl | rfl | rfl | rfl | rfl
      · rw [Ab.out, Ac.out]
        go_wp2_with fail
        go_ret
        exact ⟨rfl, KW_6.out.trans HK.out⟩
      · skip
        cases hL : orN [b1, b2, b3, b4] 0
        · cases hH : orN [c1, c2, c3, c4] 0
          · have HL := Lib.hid hL
            have HH := Lib.hid hH
            clear hL hH
            have K0 : Hid (Keep wc _) := Lib.hid (HK.out.trans (keep_drew _))
            obtain ⟨a0_0, a0_1, a0_2, a0_3, a0_4, a0_5, -, -, -, -, -, -⟩ := (BP_6.out.keep K0.out).c6
            obtain ⟨b0_0, b0_1, b0_2, b0_3, b0_4, b0_5, b0_6, b0_7, b0_8, b0_9, b0_10, b0_11, -, -, -, -, -, -, -, -, -, -, -, -⟩ := (PB_6.out.keep K0.out).c12
            go_wp2
            go_region_held3 (fun w' => w'.cell? ⟨w4.heap.size, 0, none⟩ = some (.bool mlb) ∧ w'.cell? ⟨w4.heap.size, 1, none⟩ = some (.slice mla mln mlc) ∧ w'.cell? ⟨w4.heap.size, 2, none⟩ = some (.slice mlh mlm mlg) ∧ w'.cell? ⟨w4.heap.size, 3, none⟩ = some (.bool mub) ∧ w'.cell? ⟨w4.heap.size, 4, none⟩ = some (.slice mua mun muc) ∧ w'.cell? ⟨w4.heap.size, 5, none⟩ = some (.slice muh mum mug) ∧ w'.cell? ⟨gA, 0, none⟩ = some (.bool o1b) ∧ w'.cell? ⟨gA, 1, none⟩ = some (.slice o1a o1n o1c) ∧ w'.cell? ⟨gA, 2, none⟩ = some (.slice o1h o1m o1g) ∧ w'.cell? ⟨gA, 3, none⟩ = some (.bool o2b) ∧ w'.cell? ⟨gA, 4, none⟩ = some (.slice o2a o2n o2c) ∧ w'.cell? ⟨gA, 5, none⟩ = some (.slice o2h o2m o2g) ∧ w'.cell? ⟨gA, 6, none⟩ = some (.bool o3b) ∧ w'.cell? ⟨gA, 7, none⟩ = some (.slice o3a o3n o3c) ∧ w'.cell? ⟨gA, 8, none⟩ = some (.slice o3h o3m o3g) ∧ w'.cell? ⟨gA, 9, none⟩ = some (.bool o4b) ∧ w'.cell? ⟨gA, 10, none⟩ = some (.slice o4a o4n o4c) ∧ w'.cell? ⟨gA, 11, none⟩ = some (.slice o4h o4m o4g)) (first | with_reducible exact ⟨a1_0, a1_1, a1_2, a1_3, a1_4, a1_5, b1_0, b1_1, b1_2, b1_3, b1_4, b1_5, b1_6, b1_7, b1_8, b1_9, b1_10, b1_11⟩ | with_reducible exact ⟨a0_0, a0_1, a0_2, a0_3, a0_4, a0_5, b0_0, b0_1, b0_2, b0_3, b0_4, b0_5, b0_6, b0_7, b0_8, b0_9, b0_10, b0_11⟩ | go_keep)
              (first | (go_at_call 33; ((with_reducible refine Calls.mono (SL1.out _ _ _ (ML_6.out.keep K0.out) (Q1_6.out.keep K0.out)) ?_); rintro e v1 ⟨rfl, k1⟩; have K1 : Hid (Keep wc v1) := Lib.hid (K0.out.trans k1); obtain ⟨a1_0, a1_1, a1_2, a1_3, a1_4, a1_5, -, -, -, -, -, -⟩ := (BP_6.out.keep K1.out).c6; obtain ⟨b1_0, b1_1, b1_2, b1_3, b1_4, b1_5, b1_6, b1_7, b1_8, b1_9, b1_10, b1_11, -, -, -, -, -, -, -, -, -, -, -, -⟩ := (PB_6.out.keep K1.out).c12; clear k1)))
            clear a0_0 a0_1 a0_2 a0_3 a0_4 a0_5 b0_0 b0_1 b0_2 b0_3 b0_4 b0_5 b0_6 b0_7 b0_8 b0_9 b0_10 b0_11 a1_0 a1_1 a1_2 a1_3 a1_4 a1_5 b1_0 b1_1 b1_2 b1_3 b1_4 b1_5 b1_6 b1_7 b1_8 b1_9 b1_10 b1_11
            have K2 : Hid (Keep wc _) := Lib.hid (K1.out.trans (keep_drew _))
            obtain ⟨a2_0, a2_1, a2_2, a2_3, a2_4, a2_5, -, -, -, -, -, -⟩ := (BP_6.out.keep K2.out).c6
            obtain ⟨b2_0, b2_1, b2_2, b2_3, b2_4, b2_5, b2_6, b2_7, b2_8, b2_9, b2_10, b2_11, -, -, -, -, -, -, -, -, -, -, -, -⟩ := (PB_6.out.keep K2.out).c12
            go_wp2
            go_region_held3 (fun w' => w'.cell? ⟨w4.heap.size, 0, none⟩ = some (.bool mlb) ∧ w'.cell? ⟨w4.heap.size, 1, none⟩ = some (.slice mla mln mlc) ∧ w'.cell? ⟨w4.heap.size, 2, none⟩ = some (.slice mlh mlm mlg) ∧ w'.cell? ⟨w4.heap.size, 3, none⟩ = some (.bool mub) ∧ w'.cell? ⟨w4.heap.size, 4, none⟩ = some (.slice mua mun muc) ∧ w'.cell? ⟨w4.heap.size, 5, none⟩ = some (.slice muh mum mug) ∧ w'.cell? ⟨gA, 0, none⟩ = some (.bool o1b) ∧ w'.cell? ⟨gA, 1, none⟩ = some (.slice o1a o1n o1c) ∧ w'.cell? ⟨gA, 2, none⟩ = some (.slice o1h o1m o1g) ∧ w'.cell? ⟨gA, 3, none⟩ = some (.bool o2b) ∧ w'.cell? ⟨gA, 4, none⟩ = some (.slice o2a o2n o2c) ∧ w'.cell? ⟨gA, 5, none⟩ = some (.slice o2h o2m o2g) ∧ w'.cell? ⟨gA, 6, none⟩ = some (.bool o3b) ∧ w'.cell? ⟨gA, 7, none⟩ = some (.slice o3a o3n o3c) ∧ w'.cell? ⟨gA, 8, none⟩ = some (.slice o3h o3m o3g) ∧ w'.cell? ⟨gA, 9, none⟩ = some (.bool o4b) ∧ w'.cell? ⟨gA, 10, none⟩ = some (.slice o4a o4n o4c) ∧ w'.cell? ⟨gA, 11, none⟩ = some (.slice o4h o4m o4g)) (first | with_reducible exact ⟨a3_0, a3_1, a3_2, a3_3, a3_4, a3_5, b3_0, b3_1, b3_2, b3_3, b3_4, b3_5, b3_6, b3_7, b3_8, b3_9, b3_10, b3_11⟩ | with_reducible exact ⟨a2_0, a2_1, a2_2, a2_3, a2_4, a2_5, b2_0, b2_1, b2_2, b2_3, b2_4, b2_5, b2_6, b2_7, b2_8, b2_9, b2_10, b2_11⟩ | go_keep)
              (first | (go_at_call 33; ((with_reducible refine Calls.mono (SU1.out _ _ _ (MH_6.out.keep K2.out) (Q1_6.out.keep K2.out)) ?_); rintro e v3 ⟨rfl, k3⟩; have K3 : Hid (Keep wc v3) := Lib.hid (K2.out.trans k3); obtain ⟨a3_0, a3_1, a3_2, a3_3, a3_4, a3_5, -, -, -, -, -, -⟩ := (BP_6.out.keep K3.out).c6; obtain ⟨b3_0, b3_1, b3_2, b3_3, b3_4, b3_5, b3_6, b3_7, b3_8, b3_9, b3_10, b3_11, -, -, -, -, -, -, -, -, -, -, -, -⟩ := (PB_6.out.keep K3.out).c12; clear k3)))
            clear a2_0 a2_1 a2_2 a2_3 a2_4 a2_5 b2_0 b2_1 b2_2 b2_3 b2_4 b2_5 b2_6 b2_7 b2_8 b2_9 b2_10 b2_11 a3_0 a3_1 a3_2 a3_3 a3_4 a3_5 b3_0 b3_1 b3_2 b3_3 b3_4 b3_5 b3_6 b3_7 b3_8 b3_9 b3_10 b3_11
            all_goals
              go_wp2_with fail
              go_roundw
              case rel => exact ⟨1, by omega, by go_num, vb (by rw [orN_1, HL.out]; simp), vb (by rw [orN_1, HH.out]; simp), Lib.hid K3.out⟩
              case measure => simp [intOf]
          · have HL := Lib.hid hL
            have HH := Lib.hid hH
            clear hL hH
            have K0 : Hid (Keep wc _) := Lib.hid (HK.out.trans (keep_drew _))
            obtain ⟨a0_0, a0_1, a0_2, a0_3, a0_4, a0_5, -, -, -, -, -, -⟩ := (BP_6.out.keep K0.out).c6
            obtain ⟨b0_0, b0_1, b0_2, b0_3, b0_4, b0_5, b0_6, b0_7, b0_8, b0_9, b0_10, b0_11, -, -, -, -, -, -, -, -, -, -, -, -⟩ := (PB_6.out.keep K0.out).c12
            go_wp2
            go_region_held3 (fun w' => w'.cell? ⟨w4.heap.size, 0, none⟩ = some (.bool mlb) ∧ w'.cell? ⟨w4.heap.size, 1, none⟩ = some (.slice mla mln mlc) ∧ w'.cell? ⟨w4.heap.size, 2, none⟩ = some (.slice mlh mlm mlg) ∧ w'.cell? ⟨w4.heap.size, 3, none⟩ = some (.bool mub) ∧ w'.cell? ⟨w4.heap.size, 4, none⟩ = some (.slice mua mun muc) ∧ w'.cell? ⟨w4.heap.size, 5, none⟩ = some (.slice muh mum mug) ∧ w'.cell? ⟨gA, 0, none⟩ = some (.bool o1b) ∧ w'.cell? ⟨gA, 1, none⟩ = some (.slice o1a o1n o1c) ∧ w'.cell? ⟨gA, 2, none⟩ = some (.slice o1h o1m o1g) ∧ w'.cell? ⟨gA, 3, none⟩ = some (.bool o2b) ∧ w'.cell? ⟨gA, 4, none⟩ = some (.slice o2a o2n o2c) ∧ w'.cell? ⟨gA, 5, none⟩ = some (.slice o2h o2m o2g) ∧ w'.cell? ⟨gA, 6, none⟩ = some (.bool o3b) ∧ w'.cell? ⟨gA, 7, none⟩ = some (.slice o3a o3n o3c) ∧ w'.cell? ⟨gA, 8, none⟩ = some (.slice o3h o3m o3g) ∧ w'.cell? ⟨gA, 9, none⟩ = some (.bool o4b) ∧ w'.cell? ⟨gA, 10, none⟩ = some (.slice o4a o4n o4c) ∧ w'.cell? ⟨gA, 11, none⟩ = some (.slice o4h o4m o4g)) (first | with_reducible exact ⟨a1_0, a1_1, a1_2, a1_3, a1_4, a1_5, b1_0, b1_1, b1_2, b1_3, b1_4, b1_5, b1_6, b1_7, b1_8, b1_9, b1_10, b1_11⟩ | with_reducible exact ⟨a0_0, a0_1, a0_2, a0_3, a0_4, a0_5, b0_0, b0_1, b0_2, b0_3, b0_4, b0_5, b0_6, b0_7, b0_8, b0_9, b0_10, b0_11⟩ | go_keep)
              (first | (go_at_call 33; ((with_reducible refine Calls.mono (SL1.out _ _ _ (ML_6.out.keep K0.out) (Q1_6.out.keep K0.out)) ?_); rintro e v1 ⟨rfl, k1⟩; have K1 : Hid (Keep wc v1) := Lib.hid (K0.out.trans k1); obtain ⟨a1_0, a1_1, a1_2, a1_3, a1_4, a1_5, -, -, -, -, -, -⟩ := (BP_6.out.keep K1.out).c6; obtain ⟨b1_0, b1_1, b1_2, b1_3, b1_4, b1_5, b1_6, b1_7, b1_8, b1_9, b1_10, b1_11, -, -, -, -, -, -, -, -, -, -, -, -⟩ := (PB_6.out.keep K1.out).c12; clear k1)))
            clear a0_0 a0_1 a0_2 a0_3 a0_4 a0_5 b0_0 b0_1 b0_2 b0_3 b0_4 b0_5 b0_6 b0_7 b0_8 b0_9 b0_10 b0_11 a1_0 a1_1 a1_2 a1_3 a1_4 a1_5 b1_0 b1_1 b1_2 b1_3 b1_4 b1_5 b1_6 b1_7 b1_8 b1_9 b1_10 b1_11
            have K2 : Hid (Keep wc _) := Lib.hid (K1.out.trans (keep_drew _))
            go_wp2_with fail
            go_region
            all_goals
              go_wp2_with fail
              go_roundw
              case rel => exact ⟨1, by omega, by go_num, vb (by rw [orN_1, HL.out]; simp), vb (by rw [orN_1, HH.out]; simp), Lib.hid K2.out⟩
              case measure => simp [intOf]
        · cases hH : orN [c1, c2, c3, c4] 0
          · have HL := Lib.hid hL
            have HH := Lib.hid hH
            clear hL hH
            have K0 : Hid (Keep wc _) := Lib.hid (HK.out.trans (keep_drew _))
            go_wp2_with fail
            go_region
            have K1 : Hid (Keep wc _) := Lib.hid (K0.out.trans (keep_drew _))
            obtain ⟨a1_0, a1_1, a1_2, a1_3, a1_4, a1_5, -, -, -, -, -, -⟩ := (BP_6.out.keep K1.out).c6
            obtain ⟨b1_0, b1_1, b1_2, b1_3, b1_4, b1_5, b1_6, b1_7, b1_8, b1_9, b1_10, b1_11, -, -, -, -, -, -, -, -, -, -, -, -⟩ := (PB_6.out.keep K1.out).c12
            go_wp2
            go_region_held3 (fun w' => w'.cell? ⟨w4.heap.size, 0, none⟩ = some (.bool mlb) ∧ w'.cell? ⟨w4.heap.size, 1, none⟩ = some (.slice mla mln mlc) ∧ w'.cell? ⟨w4.heap.size, 2, none⟩ = some (.slice mlh mlm mlg) ∧ w'.cell? ⟨w4.heap.size, 3, none⟩ = some (.bool mub) ∧ w'.cell? ⟨w4.heap.size, 4, none⟩ = some (.slice mua mun muc) ∧ w'.cell? ⟨w4.heap.size, 5, none⟩ = some (.slice muh mum mug) ∧ w'.cell? ⟨gA, 0, none⟩ = some (.bool o1b) ∧ w'.cell? ⟨gA, 1, none⟩ = some (.slice o1a o1n o1c) ∧ w'.cell? ⟨gA, 2, none⟩ = some (.slice o1h o1m o1g) ∧ w'.cell? ⟨gA, 3, none⟩ = some (.bool o2b) ∧ w'.cell? ⟨gA, 4, none⟩ = some (.slice o2a o2n o2c) ∧ w'.cell? ⟨gA, 5, none⟩ = some (.slice o2h o2m o2g) ∧ w'.cell? ⟨gA, 6, none⟩ = some (.bool o3b) ∧ w'.cell? ⟨gA, 7, none⟩ = some (.slice o3a o3n o3c) ∧ w'.cell? ⟨gA, 8, none⟩ = some (.slice o3h o3m o3g) ∧ w'.cell? ⟨gA, 9, none⟩ = some (.bool o4b) ∧ w'.cell? ⟨gA, 10, none⟩ = some (.slice o4a o4n o4c) ∧ w'.cell? ⟨gA, 11, none⟩ = some (.slice o4h o4m o4g)) (first | with_reducible exact ⟨a2_0, a2_1, a2_2, a2_3, a2_4, a2_5, b2_0, b2_1, b2_2, b2_3, b2_4, b2_5, b2_6, b2_7, b2_8, b2_9, b2_10, b2_11⟩ | with_reducible exact ⟨a1_0, a1_1, a1_2, a1_3, a1_4, a1_5, b1_0, b1_1, b1_2, b1_3, b1_4, b1_5, b1_6, b1_7, b1_8, b1_9, b1_10, b1_11⟩ | go_keep)
              (first | (go_at_call 33; ((with_reducible refine Calls.mono (SU1.out _ _ _ (MH_6.out.keep K1.out) (Q1_6.out.keep K1.out)) ?_); rintro e v2 ⟨rfl, k2⟩; have K2 : Hid (Keep wc v2) := Lib.hid (K1.out.trans k2); obtain ⟨a2_0, a2_1, a2_2, a2_3, a2_4, a2_5, -, -, -, -, -, -⟩ := (BP_6.out.keep K2.out).c6; obtain ⟨b2_0, b2_1, b2_2, b2_3, b2_4, b2_5, b2_6, b2_7, b2_8, b2_9, b2_10, b2_11, -, -, -, -, -, -, -, -, -, -, -, -⟩ := (PB_6.out.keep K2.out).c12; clear k2)))
            clear a1_0 a1_1 a1_2 a1_3 a1_4 a1_5 b1_0 b1_1 b1_2 b1_3 b1_4 b1_5 b1_6 b1_7 b1_8 b1_9 b1_10 b1_11 a2_0 a2_1 a2_2 a2_3 a2_4 a2_5 b2_0 b2_1 b2_2 b2_3 b2_4 b2_5 b2_6 b2_7 b2_8 b2_9 b2_10 b2_11
            all_goals
              go_wp2_with fail
              go_roundw
              case rel => exact ⟨1, by omega, by go_num, vb (by rw [orN_1, HL.out]; simp), vb (by rw [orN_1, HH.out]; simp), Lib.hid K2.out⟩
              case measure => simp [intOf]
          · have HL := Lib.hid hL
            have HH := Lib.hid hH
            clear hL hH
            have K0 : Hid (Keep wc _) := Lib.hid (HK.out.trans (keep_drew _))
            go_wp2_with fail
            go_region
            have K1 : Hid (Keep wc _) := Lib.hid (K0.out.trans (keep_drew _))
            go_wp2_with fail
            go_region
            all_goals
              go_wp2_with fail
              go_roundw
              case rel => exact ⟨1, by omega, by go_num, vb (by rw [orN_1, HL.out]; simp), vb (by rw [orN_1, HH.out]; simp), Lib.hid K1.out⟩
              case measure => simp [intOf]
      · skip
        cases hL : orN [b1, b2, b3, b4] 1
        · cases hH : orN [c1, c2, c3, c4] 1
          · have HL := Lib.hid hL
            have HH := Lib.hid hH
            clear hL hH
            have K0 : Hid (Keep wc _) := Lib.hid (HK.out.trans (keep_drew _))
            obtain ⟨a0_0, a0_1, a0_2, a0_3, a0_4, a0_5, -, -, -, -, -, -⟩ := (BP_6.out.keep K0.out).c6
            obtain ⟨b0_0, b0_1, b0_2, b0_3, b0_4, b0_5, b0_6, b0_7, b0_8, b0_9, b0_10, b0_11, -, -, -, -, -, -, -, -, -, -, -, -⟩ := (PB_6.out.keep K0.out).c12
            go_wp2
            go_region_held3 (fun w' => w'.cell? ⟨w4.heap.size, 0, none⟩ = some (.bool mlb) ∧ w'.cell? ⟨w4.heap.size, 1, none⟩ = some (.slice mla mln mlc) ∧ w'.cell? ⟨w4.heap.size, 2, none⟩ = some (.slice mlh mlm mlg) ∧ w'.cell? ⟨w4.heap.size, 3, none⟩ = some (.bool mub) ∧ w'.cell? ⟨w4.heap.size, 4, none⟩ = some (.slice mua mun muc) ∧ w'.cell? ⟨w4.heap.size, 5, none⟩ = some (.slice muh mum mug) ∧ w'.cell? ⟨gA, 0, none⟩ = some (.bool o1b) ∧ w'.cell? ⟨gA, 1, none⟩ = some (.slice o1a o1n o1c) ∧ w'.cell? ⟨gA, 2, none⟩ = some (.slice o1h o1m o1g) ∧ w'.cell? ⟨gA, 3, none⟩ = some (.bool o2b) ∧ w'.cell? ⟨gA, 4, none⟩ = some (.slice o2a o2n o2c) ∧ w'.cell? ⟨gA, 5, none⟩ = some (.slice o2h o2m o2g) ∧ w'.cell? ⟨gA, 6, none⟩ = some (.bool o3b) ∧ w'.cell? ⟨gA, 7, none⟩ = some (.slice o3a o3n o3c) ∧ w'.cell? ⟨gA, 8, none⟩ = some (.slice o3h o3m o3g) ∧ w'.cell? ⟨gA, 9, none⟩ = some (.bool o4b) ∧ w'.cell? ⟨gA, 10, none⟩ = some (.slice o4a o4n o4c) ∧ w'.cell? ⟨gA, 11, none⟩ = some (.slice o4h o4m o4g)) (first | with_reducible exact ⟨a1_0, a1_1, a1_2, a1_3, a1_4, a1_5, b1_0, b1_1, b1_2, b1_3, b1_4, b1_5, b1_6, b1_7, b1_8, b1_9, b1_10, b1_11⟩ | with_reducible exact ⟨a0_0, a0_1, a0_2, a0_3, a0_4, a0_5, b0_0, b0_1, b0_2, b0_3, b0_4, b0_5, b0_6, b0_7, b0_8, b0_9, b0_10, b0_11⟩ | go_keep)
              (first | (go_at_call 33; ((with_reducible refine Calls.mono (SL2.out _ _ _ (ML_6.out.keep K0.out) (Q2_6.out.keep K0.out)) ?_); rintro e v1 ⟨rfl, k1⟩; have K1 : Hid (Keep wc v1) := Lib.hid (K0.out.trans k1); obtain ⟨a1_0, a1_1, a1_2, a1_3, a1_4, a1_5, -, -, -, -, -, -⟩ := (BP_6.out.keep K1.out).c6; obtain ⟨b1_0, b1_1, b1_2, b1_3, b1_4, b1_5, b1_6, b1_7, b1_8, b1_9, b1_10, b1_11, -, -, -, -, -, -, -, -, -, -, -, -⟩ := (PB_6.out.keep K1.out).c12; clear k1)))
            clear a0_0 a0_1 a0_2 a0_3 a0_4 a0_5 b0_0 b0_1 b0_2 b0_3 b0_4 b0_5 b0_6 b0_7 b0_8 b0_9 b0_10 b0_11 a1_0 a1_1 a1_2 a1_3 a1_4 a1_5 b1_0 b1_1 b1_2 b1_3 b1_4 b1_5 b1_6 b1_7 b1_8 b1_9 b1_10 b1_11
            have K2 : Hid (Keep wc _) := Lib.hid (K1.out.trans (keep_drew _))
            obtain ⟨a2_0, a2_1, a2_2, a2_3, a2_4, a2_5, -, -, -, -, -, -⟩ := (BP_6.out.keep K2.out).c6
            obtain ⟨b2_0, b2_1, b2_2, b2_3, b2_4, b2_5, b2_6, b2_7, b2_8, b2_9, b2_10, b2_11, -, -, -, -, -, -, -, -, -, -, -, -⟩ := (PB_6.out.keep K2.out).c12
            go_wp2
            go_region_held3 (fun w' => w'.cell? ⟨w4.heap.size, 0, none⟩ = some (.bool mlb) ∧ w'.cell? ⟨w4.heap.size, 1, none⟩ = some (.slice mla mln mlc) ∧ w'.cell? ⟨w4.heap.size, 2, none⟩ = some (.slice mlh mlm mlg) ∧ w'.cell? ⟨w4.heap.size, 3, none⟩ = some (.bool mub) ∧ w'.cell? ⟨w4.heap.size, 4, none⟩ = some (.slice mua mun muc) ∧ w'.cell? ⟨w4.heap.size, 5, none⟩ = some (.slice muh mum mug) ∧ w'.cell? ⟨gA, 0, none⟩ = some (.bool o1b) ∧ w'.cell? ⟨gA, 1, none⟩ = some (.slice o1a o1n o1c) ∧ w'.cell? ⟨gA, 2, none⟩ = some (.slice o1h o1m o1g) ∧ w'.cell? ⟨gA, 3, none⟩ = some (.bool o2b) ∧ w'.cell? ⟨gA, 4, none⟩ = some (.slice o2a o2n o2c) ∧ w'.cell? ⟨gA, 5, none⟩ = some (.slice o2h o2m o2g) ∧ w'.cell? ⟨gA, 6, none⟩ = some (.bool o3b) ∧ w'.cell? ⟨gA, 7, none⟩ = some (.slice o3a o3n o3c) ∧ w'.cell? ⟨gA, 8, none⟩ = some (.slice o3h o3m o3g) ∧ w'.cell? ⟨gA, 9, none⟩ = some (.bool o4b) ∧ w'.cell? ⟨gA, 10, none⟩ = some (.slice o4a o4n o4c) ∧ w'.cell? ⟨gA, 11, none⟩ = some (.slice o4h o4m o4g)) (first | with_reducible exact ⟨a3_0, a3_1, a3_2, a3_3, a3_4, a3_5, b3_0, b3_1, b3_2, b3_3, b3_4, b3_5, b3_6, b3_7, b3_8, b3_9, b3_10, b3_11⟩ | with_reducible exact ⟨a2_0, a2_1, a2_2, a2_3, a2_4, a2_5, b2_0, b2_1, b2_2, b2_3, b2_4, b2_5, b2_6, b2_7, b2_8, b2_9, b2_10, b2_11⟩ | go_keep)
              (first | (go_at_call 33; ((with_reducible refine Calls.mono (SU2.out _ _ _ (MH_6.out.keep K2.out) (Q2_6.out.keep K2.out)) ?_); rintro e v3 ⟨rfl, k3⟩; have K3 : Hid (Keep wc v3) := Lib.hid (K2.out.trans k3); obtain ⟨a3_0, a3_1, a3_2, a3_3, a3_4, a3_5, -, -, -, -, -, -⟩ := (BP_6.out.keep K3.out).c6; obtain ⟨b3_0, b3_1, b3_2, b3_3, b3_4, b3_5, b3_6, b3_7, b3_8, b3_9, b3_10, b3_11, -, -, -, -, -, -, -, -, -, -, -, -⟩ := (PB_6.out.keep K3.out).c12; clear k3)))
            clear a2_0 a2_1 a2_2 a2_3 a2_4 a2_5 b2_0 b2_1 b2_2 b2_3 b2_4 b2_5 b2_6 b2_7 b2_8 b2_9 b2_10 b2_11 a3_0 a3_1 a3_2 a3_3 a3_4 a3_5 b3_0 b3_1 b3_2 b3_3 b3_4 b3_5 b3_6 b3_7 b3_8 b3_9 b3_10 b3_11
            all_goals
              go_wp2_with fail
              go_roundw
              case rel => exact ⟨2, by omega, by go_num, vb (by rw [orN_2, HL.out]; simp), vb (by rw [orN_2, HH.out]; simp), Lib.hid K3.out⟩
              case measure => simp [intOf]
          · have HL := Lib.hid hL
            have HH := Lib.hid hH
            clear hL hH
            have K0 : Hid (Keep wc _) := Lib.hid (HK.out.trans (keep_drew _))
            obtain ⟨a0_0, a0_1, a0_2, a0_3, a0_4, a0_5, -, -, -, -, -, -⟩ := (BP_6.out.keep K0.out).c6
            obtain ⟨b0_0, b0_1, b0_2, b0_3, b0_4, b0_5, b0_6, b0_7, b0_8, b0_9, b0_10, b0_11, -, -, -, -, -, -, -, -, -, -, -, -⟩ := (PB_6.out.keep K0.out).c12
            go_wp2
            go_region_held3 (fun w' => w'.cell? ⟨w4.heap.size, 0, none⟩ = some (.bool mlb) ∧ w'.cell? ⟨w4.heap.size, 1, none⟩ = some (.slice mla mln mlc) ∧ w'.cell? ⟨w4.heap.size, 2, none⟩ = some (.slice mlh mlm mlg) ∧ w'.cell? ⟨w4.heap.size, 3, none⟩ = some (.bool mub) ∧ w'.cell? ⟨w4.heap.size, 4, none⟩ = some (.slice mua mun muc) ∧ w'.cell? ⟨w4.heap.size, 5, none⟩ = some (.slice muh mum mug) ∧ w'.cell? ⟨gA, 0, none⟩ = some (.bool o1b) ∧ w'.cell? ⟨gA, 1, none⟩ = some (.slice o1a o1n o1c) ∧ w'.cell? ⟨gA, 2, none⟩ = some (.slice o1h o1m o1g) ∧ w'.cell? ⟨gA, 3, none⟩ = some (.bool o2b) ∧ w'.cell? ⟨gA, 4, none⟩ = some (.slice o2a o2n o2c) ∧ w'.cell? ⟨gA, 5, none⟩ = some (.slice o2h o2m o2g) ∧ w'.cell? ⟨gA, 6, none⟩ = some (.bool o3b) ∧ w'.cell? ⟨gA, 7, none⟩ = some (.slice o3a o3n o3c) ∧ w'.cell? ⟨gA, 8, none⟩ = some (.slice o3h o3m o3g) ∧ w'.cell? ⟨gA, 9, none⟩ = some (.bool o4b) ∧ w'.cell? ⟨gA, 10, none⟩ = some (.slice o4a o4n o4c) ∧ w'.cell? ⟨gA, 11, none⟩ = some (.slice o4h o4m o4g)) (first | with_reducible exact ⟨a1_0, a1_1, a1_2, a1_3, a1_4, a1_5, b1_0, b1_1, b1_2, b1_3, b1_4, b1_5, b1_6, b1_7, b1_8, b1_9, b1_10, b1_11⟩ | with_reducible exact ⟨a0_0, a0_1, a0_2, a0_3, a0_4, a0_5, b0_0, b0_1, b0_2, b0_3, b0_4, b0_5, b0_6, b0_7, b0_8, b0_9, b0_10, b0_11⟩ | go_keep)
              (first | (go_at_call 33; ((with_reducible refine Calls.mono (SL2.out _ _ _ (ML_6.out.keep K0.out) (Q2_6.out.keep K0.out)) ?_); rintro e v1 ⟨rfl, k1⟩; have K1 : Hid (Keep wc v1) := Lib.hid (K0.out.trans k1); obtain ⟨a1_0, a1_1, a1_2, a1_3, a1_4, a1_5, -, -, -, -, -, -⟩ := (BP_6.out.keep K1.out).c6; obtain ⟨b1_0, b1_1, b1_2, b1_3, b1_4, b1_5, b1_6, b1_7, b1_8, b1_9, b1_10, b1_11, -, -, -, -, -, -, -, -, -, -, -, -⟩ := (PB_6.out.keep K1.out).c12; clear k1)))
            clear a0_0 a0_1 a0_2 a0_3 a0_4 a0_5 b0_0 b0_1 b0_2 b0_3 b0_4 b0_5 b0_6 b0_7 b0_8 b0_9 b0_10 b0_11 a1_0 a1_1 a1_2 a1_3 a1_4 a1_5 b1_0 b1_1 b1_2 b1_3 b1_4 b1_5 b1_6 b1_7 b1_8 b1_9 b1_10 b1_11
            have K2 : Hid (Keep wc _) := Lib.hid (K1.out.trans (keep_drew _))
            go_wp2_with fail
            go_region
            all_goals
              go_wp2_with fail
              go_roundw
              case rel => exact ⟨2, by omega, by go_num, vb (by rw [orN_2, HL.out]; simp), vb (by rw [orN_2, HH.out]; simp), Lib.hid K2.out⟩
              case measure => simp [intOf]
        · cases hH : orN [c1, c2, c3, c4] 1
          · have HL := Lib.hid hL
            have HH := Lib.hid hH
            clear hL hH
            have K0 : Hid (Keep wc _) := Lib.hid (HK.out.trans (keep_drew _))
            go_wp2_with fail
            go_region
            have K1 : Hid (Keep wc _) := Lib.hid (K0.out.trans (keep_drew _))
            obtain ⟨a1_0, a1_1, a1_2, a1_3, a1_4, a1_5, -, -, -, -, -, -⟩ := (BP_6.out.keep K1.out).c6
            obtain ⟨b1_0, b1_1, b1_2, b1_3, b1_4, b1_5, b1_6, b1_7, b1_8, b1_9, b1_10, b1_11, -, -, -, -, -, -, -, -, -, -, -, -⟩ := (PB_6.out.keep K1.out).c12
            go_wp2
            go_region_held3 (fun w' => w'.cell? ⟨w4.heap.size, 0, none⟩ = some (.bool mlb) ∧ w'.cell? ⟨w4.heap.size, 1, none⟩ = some (.slice mla mln mlc) ∧ w'.cell? ⟨w4.heap.size, 2, none⟩ = some (.slice mlh mlm mlg) ∧ w'.cell? ⟨w4.heap.size, 3, none⟩ = some (.bool mub) ∧ w'.cell? ⟨w4.heap.size, 4, none⟩ = some (.slice mua mun muc) ∧ w'.cell? ⟨w4.heap.size, 5, none⟩ = some (.slice muh mum mug) ∧ w'.cell? ⟨gA, 0, none⟩ = some (.bool o1b) ∧ w'.cell? ⟨gA, 1, none⟩ = some (.slice o1a o1n o1c) ∧ w'.cell? ⟨gA, 2, none⟩ = some (.slice o1h o1m o1g) ∧ w'.cell? ⟨gA, 3, none⟩ = some (.bool o2b) ∧ w'.cell? ⟨gA, 4, none⟩ = some (.slice o2a o2n o2c) ∧ w'.cell? ⟨gA, 5, none⟩ = some (.slice o2h o2m o2g) ∧ w'.cell? ⟨gA, 6, none⟩ = some (.bool o3b) ∧ w'.cell? ⟨gA, 7, none⟩ = some (.slice o3a o3n o3c) ∧ w'.cell? ⟨gA, 8, none⟩ = some (.slice o3h o3m o3g) ∧ w'.cell? ⟨gA, 9, none⟩ = some (.bool o4b) ∧ w'.cell? ⟨gA, 10, none⟩ = some (.slice o4a o4n o4c) ∧ w'.cell? ⟨gA, 11, none⟩ = some (.slice o4h o4m o4g)) (first | with_reducible exact ⟨a2_0, a2_1, a2_2, a2_3, a2_4, a2_5, b2_0, b2_1, b2_2, b2_3, b2_4, b2_5, b2_6, b2_7, b2_8, b2_9, b2_10, b2_11⟩ | with_reducible exact ⟨a1_0, a1_1, a1_2, a1_3, a1_4, a1_5, b1_0, b1_1, b1_2, b1_3, b1_4, b1_5, b1_6, b1_7, b1_8, b1_9, b1_10, b1_11⟩ | go_keep)
              (first | (go_at_call 33; ((with_reducible refine Calls.mono (SU2.out _ _ _ (MH_6.out.keep K1.out) (Q2_6.out.keep K1.out)) ?_); rintro e v2 ⟨rfl, k2⟩; have K2 : Hid (Keep wc v2) := Lib.hid (K1.out.trans k2); obtain ⟨a2_0, a2_1, a2_2, a2_3, a2_4, a2_5, -, -, -, -, -, -⟩ := (BP_6.out.keep K2.out).c6; obtain ⟨b2_0, b2_1, b2_2, b2_3, b2_4, b2_5, b2_6, b2_7, b2_8, b2_9, b2_10, b2_11, -, -, -, -, -, -, -, -, -, -, -, -⟩ := (PB_6.out.keep K2.out).c12; clear k2)))
            clear a1_0 a1_1 a1_2 a1_3 a1_4 a1_5 b1_0 b1_1 b1_2 b1_3 b1_4 b1_5 b1_6 b1_7 b1_8 b1_9 b1_10 b1_11 a2_0 a2_1 a2_2 a2_3 a2_4 a2_5 b2_0 b2_1 b2_2 b2_3 b2_4 b2_5 b2_6 b2_7 b2_8 b2_9 b2_10 b2_11
            all_goals
              go_wp2_with fail
              go_roundw
              case rel => exact ⟨2, by omega, by go_num, vb (by rw [orN_2, HL.out]; simp), vb (by rw [orN_2, HH.out]; simp), Lib.hid K2.out⟩
              case measure => simp [intOf]
          · have HL := Lib.hid hL
            have HH := Lib.hid hH
            clear hL hH
            have K0 : Hid (Keep wc _) := Lib.hid (HK.out.trans (keep_drew _))
            go_wp2_with fail
            go_region
            have K1 : Hid (Keep wc _) := Lib.hid (K0.out.trans (keep_drew _))
            go_wp2_with fail
            go_region
            all_goals
              go_wp2_with fail
              go_roundw
              case rel => exact ⟨2, by omega, by go_num, vb (by rw [orN_2, HL.out]; simp), vb (by rw [orN_2, HH.out]; simp), Lib.hid K1.out⟩
              case measure => simp [intOf]
      · skip
        cases hL : orN [b1, b2, b3, b4] 2
        · cases hH : orN [c1, c2, c3, c4] 2
          · have HL := Lib.hid hL
            have HH := Lib.hid hH
            clear hL hH
            have K0 : Hid (Keep wc _) := Lib.hid (HK.out.trans (keep_drew _))
            obtain ⟨a0_0, a0_1, a0_2, a0_3, a0_4, a0_5, -, -, -, -, -, -⟩ := (BP_6.out.keep K0.out).c6
            obtain ⟨b0_0, b0_1, b0_2, b0_3, b0_4, b0_5, b0_6, b0_7, b0_8, b0_9, b0_10, b0_11, -, -, -, -, -, -, -, -, -, -, -, -⟩ := (PB_6.out.keep K0.out).c12
            go_wp2
            go_region_held3 (fun w' => w'.cell? ⟨w4.heap.size, 0, none⟩ = some (.bool mlb) ∧ w'.cell? ⟨w4.heap.size, 1, none⟩ = some (.slice mla mln mlc) ∧ w'.cell? ⟨w4.heap.size, 2, none⟩ = some (.slice mlh mlm mlg) ∧ w'.cell? ⟨w4.heap.size, 3, none⟩ = some (.bool mub) ∧ w'.cell? ⟨w4.heap.size, 4, none⟩ = some (.slice mua mun muc) ∧ w'.cell? ⟨w4.heap.size, 5, none⟩ = some (.slice muh mum mug) ∧ w'.cell? ⟨gA, 0, none⟩ = some (.bool o1b) ∧ w'.cell? ⟨gA, 1, none⟩ = some (.slice o1a o1n o1c) ∧ w'.cell? ⟨gA, 2, none⟩ = some (.slice o1h o1m o1g) ∧ w'.cell? ⟨gA, 3, none⟩ = some (.bool o2b) ∧ w'.cell? ⟨gA, 4, none⟩ = some (.slice o2a o2n o2c) ∧ w'.cell? ⟨gA, 5, none⟩ = some (.slice o2h o2m o2g) ∧ w'.cell? ⟨gA, 6, none⟩ = some (.bool o3b) ∧ w'.cell? ⟨gA, 7, none⟩ = some (.slice o3a o3n o3c) ∧ w'.cell? ⟨gA, 8, none⟩ = some (.slice o3h o3m o3g) ∧ w'.cell? ⟨gA, 9, none⟩ = some (.bool o4b) ∧ w'.cell? ⟨gA, 10, none⟩ = some (.slice o4a o4n o4c) ∧ w'.cell? ⟨gA, 11, none⟩ = some (.slice o4h o4m o4g)) (first | with_reducible exact ⟨a1_0, a1_1, a1_2, a1_3, a1_4, a1_5, b1_0, b1_1, b1_2, b1_3, b1_4, b1_5, b1_6, b1_7, b1_8, b1_9, b1_10, b1_11⟩ | with_reducible exact ⟨a0_0, a0_1, a0_2, a0_3, a0_4, a0_5, b0_0, b0_1, b0_2, b0_3, b0_4, b0_5, b0_6, b0_7, b0_8, b0_9, b0_10, b0_11⟩ | go_keep)
              (first | (go_at_call 33; ((with_reducible refine Calls.mono (SL3.out _ _ _ (ML_6.out.keep K0.out) (Q3_6.out.keep K0.out)) ?_); rintro e v1 ⟨rfl, k1⟩; have K1 : Hid (Keep wc v1) := Lib.hid (K0.out.trans k1); obtain ⟨a1_0, a1_1, a1_2, a1_3, a1_4, a1_5, -, -, -, -, -, -⟩ := (BP_6.out.keep K1.out).c6; obtain ⟨b1_0, b1_1, b1_2, b1_3, b1_4, b1_5, b1_6, b1_7, b1_8, b1_9, b1_10, b1_11, -, -, -, -, -, -, -, -, -, -, -, -⟩ := (PB_6.out.keep K1.out).c12; clear k1)))
            clear a0_0 a0_1 a0_2 a0_3 a0_4 a0_5 b0_0 b0_1 b0_2 b0_3 b0_4 b0_5 b0_6 b0_7 b0_8 b0_9 b0_10 b0_11 a1_0 a1_1 a1_2 a1_3 a1_4 a1_5 b1_0 b1_1 b1_2 b1_3 b1_4 b1_5 b1_6 b1_7 b1_8 b1_9 b1_10 b1_11
            have K2 : Hid (Keep wc _) := Lib.hid (K1.out.trans (keep_drew _))
            obtain ⟨a2_0, a2_1, a2_2, a2_3, a2_4, a2_5, -, -, -, -, -, -⟩ := (BP_6.out.keep K2.out).c6
            obtain ⟨b2_0, b2_1, b2_2, b2_3, b2_4, b2_5, b2_6, b2_7, b2_8, b2_9, b2_10, b2_11, -, -, -, -, -, -, -, -, -, -, -, -⟩ := (PB_6.out.keep K2.out).c12
            go_wp2
            go_region_held3 (fun w' => w'.cell? ⟨w4.heap.size, 0, none⟩ = some (.bool mlb) ∧ w'.cell? ⟨w4.heap.size, 1, none⟩ = some (.slice mla mln mlc) ∧ w'.cell? ⟨w4.heap.size, 2, none⟩ = some (.slice mlh mlm mlg) ∧ w'.cell? ⟨w4.heap.size, 3, none⟩ = some (.bool mub) ∧ w'.cell? ⟨w4.heap.size, 4, none⟩ = some (.slice mua mun muc) ∧ w'.cell? ⟨w4.heap.size, 5, none⟩ = some (.slice muh mum mug) ∧ w'.cell? ⟨gA, 0, none⟩ = some (.bool o1b) ∧ w'.cell? ⟨gA, 1, none⟩ = some (.slice o1a o1n o1c) ∧ w'.cell? ⟨gA, 2, none⟩ = some (.slice o1h o1m o1g) ∧ w'.cell? ⟨gA, 3, none⟩ = some (.bool o2b) ∧ w'.cell? ⟨gA, 4, none⟩ = some (.slice o2a o2n o2c) ∧ w'.cell? ⟨gA, 5, none⟩ = some (.slice o2h o2m o2g) ∧ w'.cell? ⟨gA, 6, none⟩ = some (.bool o3b) ∧ w'.cell? ⟨gA, 7, none⟩ = some (.slice o3a o3n o3c) ∧ w'.cell? ⟨gA, 8, none⟩ = some (.slice o3h o3m o3g) ∧ w'.cell? ⟨gA, 9, none⟩ = some (.bool o4b) ∧ w'.cell? ⟨gA, 10, none⟩ = some (.slice o4a o4n o4c) ∧ w'.cell? ⟨gA, 11, none⟩ = some (.slice o4h o4m o4g)) (first | with_reducible exact ⟨a3_0, a3_1, a3_2, a3_3, a3_4, a3_5, b3_0, b3_1, b3_2, b3_3, b3_4, b3_5, b3_6, b3_7, b3_8, b3_9, b3_10, b3_11⟩ | with_reducible exact ⟨a2_0, a2_1, a2_2, a2_3, a2_4, a2_5, b2_0, b2_1, b2_2, b2_3, b2_4, b2_5, b2_6, b2_7, b2_8, b2_9, b2_10, b2_11⟩ | go_keep)
              (first | (go_at_call 33; ((with_reducible refine Calls.mono (SU3.out _ _ _ (MH_6.out.keep K2.out) (Q3_6.out.keep K2.out)) ?_); rintro e v3 ⟨rfl, k3⟩; have K3 : Hid (Keep wc v3) := Lib.hid (K2.out.trans k3); obtain ⟨a3_0, a3_1, a3_2, a3_3, a3_4, a3_5, -, -, -, -, -, -⟩ := (BP_6.out.keep K3.out).c6; obtain ⟨b3_0, b3_1, b3_2, b3_3, b3_4, b3_5, b3_6, b3_7, b3_8, b3_9, b3_10, b3_11, -, -, -, -, -, -, -, -, -, -, -, -⟩ := (PB_6.out.keep K3.out).c12; clear k3)))
            clear a2_0 a2_1 a2_2 a2_3 a2_4 a2_5 b2_0 b2_1 b2_2 b2_3 b2_4 b2_5 b2_6 b2_7 b2_8 b2_9 b2_10 b2_11 a3_0 a3_1 a3_2 a3_3 a3_4 a3_5 b3_0 b3_1 b3_2 b3_3 b3_4 b3_5 b3_6 b3_7 b3_8 b3_9 b3_10 b3_11
            all_goals
              go_wp2_with fail
              go_roundw
              case rel => exact ⟨3, by omega, by go_num, vb (by rw [orN_3, HL.out]; simp), vb (by rw [orN_3, HH.out]; simp), Lib.hid K3.out⟩
              case measure => simp [intOf]
          · have HL := Lib.hid hL
            have HH := Lib.hid hH
            clear hL hH
            have K0 : Hid (Keep wc _) := Lib.hid (HK.out.trans (keep_drew _))
            obtain ⟨a0_0, a0_1, a0_2, a0_3, a0_4, a0_5, -, -, -, -, -, -⟩ := (BP_6.out.keep K0.out).c6
            obtain ⟨b0_0, b0_1, b0_2, b0_3, b0_4, b0_5, b0_6, b0_7, b0_8, b0_9, b0_10, b0_11, -, -, -, -, -, -, -, -, -, -, -, -⟩ := (PB_6.out.keep K0.out).c12
            go_wp2
            go_region_held3 (fun w' => w'.cell? ⟨w4.heap.size, 0, none⟩ = some (.bool mlb) ∧ w'.cell? ⟨w4.heap.size, 1, none⟩ = some (.slice mla mln mlc) ∧ w'.cell? ⟨w4.heap.size, 2, none⟩ = some (.slice mlh mlm mlg) ∧ w'.cell? ⟨w4.heap.size, 3, none⟩ = some (.bool mub) ∧ w'.cell? ⟨w4.heap.size, 4, none⟩ = some (.slice mua mun muc) ∧ w'.cell? ⟨w4.heap.size, 5, none⟩ = some (.slice muh mum mug) ∧ w'.cell? ⟨gA, 0, none⟩ = some (.bool o1b) ∧ w'.cell? ⟨gA, 1, none⟩ = some (.slice o1a o1n o1c) ∧ w'.cell? ⟨gA, 2, none⟩ = some (.slice o1h o1m o1g) ∧ w'.cell? ⟨gA, 3, none⟩ = some (.bool o2b) ∧ w'.cell? ⟨gA, 4, none⟩ = some (.slice o2a o2n o2c) ∧ w'.cell? ⟨gA, 5, none⟩ = some (.slice o2h o2m o2g) ∧ w'.cell? ⟨gA, 6, none⟩ = some (.bool o3b) ∧ w'.cell? ⟨gA, 7, none⟩ = some (.slice o3a o3n o3c) ∧ w'.cell? ⟨gA, 8, none⟩ = some (.slice o3h o3m o3g) ∧ w'.cell? ⟨gA, 9, none⟩ = some (.bool o4b) ∧ w'.cell? ⟨gA, 10, none⟩ = some (.slice o4a o4n o4c) ∧ w'.cell? ⟨gA, 11, none⟩ = some (.slice o4h o4m o4g)) (first | with_reducible exact ⟨a1_0, a1_1, a1_2, a1_3, a1_4, a1_5, b1_0, b1_1, b1_2, b1_3, b1_4, b1_5, b1_6, b1_7, b1_8, b1_9, b1_10, b1_11⟩ | with_reducible exact ⟨a0_0, a0_1, a0_2, a0_3, a0_4, a0_5, b0_0, b0_1, b0_2, b0_3, b0_4, b0_5, b0_6, b0_7, b0_8, b0_9, b0_10, b0_11⟩ | go_keep)
              (first | (go_at_call 33; ((with_reducible refine Calls.mono (SL3.out _ _ _ (ML_6.out.keep K0.out) (Q3_6.out.keep K0.out)) ?_); rintro e v1 ⟨rfl, k1⟩; have K1 : Hid (Keep wc v1) := Lib.hid (K0.out.trans k1); obtain ⟨a1_0, a1_1, a1_2, a1_3, a1_4, a1_5, -, -, -, -, -, -⟩ := (BP_6.out.keep K1.out).c6; obtain ⟨b1_0, b1_1, b1_2, b1_3, b1_4, b1_5, b1_6, b1_7, b1_8, b1_9, b1_10, b1_11, -, -, -, -, -, -, -, -, -, -, -, -⟩ := (PB_6.out.keep K1.out).c12; clear k1)))
            clear a0_0 a0_1 a0_2 a0_3 a0_4 a0_5 b0_0 b0_1 b0_2 b0_3 b0_4 b0_5 b0_6 b0_7 b0_8 b0_9 b0_10 b0_11 a1_0 a1_1 a1_2 a1_3 a1_4 a1_5 b1_0 b1_1 b1_2 b1_3 b1_4 b1_5 b1_6 b1_7 b1_8 b1_9 b1_10 b1_11
            have K2 : Hid (Keep wc _) := Lib.hid (K1.out.trans (keep_drew _))
            go_wp2_with fail
            go_region
            all_goals
              go_wp2_with fail
              go_roundw
              case rel => exact ⟨3, by omega, by go_num, vb (by rw [orN_3, HL.out]; simp), vb (by rw [orN_3, HH.out]; simp), Lib.hid K2.out⟩
              case measure => simp [intOf]
        · cases hH : orN [c1, c2, c3, c4] 2
          · have HL := Lib.hid hL
            have HH := Lib.hid hH
            clear hL hH
            have K0 : Hid (Keep wc _) := Lib.hid (HK.out.trans (keep_drew _))
            go_wp2_with fail
            go_region
            have K1 : Hid (Keep wc _) := Lib.hid (K0.out.trans (keep_drew _))
            obtain ⟨a1_0, a1_1, a1_2, a1_3, a1_4, a1_5, -, -, -, -, -, -⟩ := (BP_6.out.keep K1.out).c6
            obtain ⟨b1_0, b1_1, b1_2, b1_3, b1_4, b1_5, b1_6, b1_7, b1_8, b1_9, b1_10, b1_11, -, -, -, -, -, -, -, -, -, -, -, -⟩ := (PB_6.out.keep K1.out).c12
            go_wp2
            go_region_held3 (fun w' => w'.cell? ⟨w4.heap.size, 0, none⟩ = some (.bool mlb) ∧ w'.cell? ⟨w4.heap.size, 1, none⟩ = some (.slice mla mln mlc) ∧ w'.cell? ⟨w4.heap.size, 2, none⟩ = some (.slice mlh mlm mlg) ∧ w'.cell? ⟨w4.heap.size, 3, none⟩ = some (.bool mub) ∧ w'.cell? ⟨w4.heap.size, 4, none⟩ = some (.slice mua mun muc) ∧ w'.cell? ⟨w4.heap.size, 5, none⟩ = some (.slice muh mum mug) ∧ w'.cell? ⟨gA, 0, none⟩ = some (.bool o1b) ∧ w'.cell? ⟨gA, 1, none⟩ = some (.slice o1a o1n o1c) ∧ w'.cell? ⟨gA, 2, none⟩ = some (.slice o1h o1m o1g) ∧ w'.cell? ⟨gA, 3, none⟩ = some (.bool o2b) ∧ w'.cell? ⟨gA, 4, none⟩ = some (.slice o2a o2n o2c) ∧ w'.cell? ⟨gA, 5, none⟩ = some (.slice o2h o2m o2g) ∧ w'.cell? ⟨gA, 6, none⟩ = some (.bool o3b) ∧ w'.cell? ⟨gA, 7, none⟩ = some (.slice o3a o3n o3c) ∧ w'.cell? ⟨gA, 8, none⟩ = some (.slice o3h o3m o3g) ∧ w'.cell? ⟨gA, 9, none⟩ = some (.bool o4b) ∧ w'.cell? ⟨gA, 10, none⟩ = some (.slice o4a o4n o4c) ∧ w'.cell? ⟨gA, 11, none⟩ = some (.slice o4h o4m o4g)) (first | with_reducible exact ⟨a2_0, a2_1, a2_2, a2_3, a2_4, a2_5, b2_0, b2_1, b2_2, b2_3, b2_4, b2_5, b2_6, b2_7, b2_8, b2_9, b2_10, b2_11⟩ | with_reducible exact ⟨a1_0, a1_1, a1_2, a1_3, a1_4, a1_5, b1_0, b1_1, b1_2, b1_3, b1_4, b1_5, b1_6, b1_7, b1_8, b1_9, b1_10, b1_11⟩ | go_keep)
              (first | (go_at_call 33; ((with_reducible refine Calls.mono (SU3.out _ _ _ (MH_6.out.keep K1.out) (Q3_6.out.keep K1.out)) ?_); rintro e v2 ⟨rfl, k2⟩; have K2 : Hid (Keep wc v2) := Lib.hid (K1.out.trans k2); obtain ⟨a2_0, a2_1, a2_2, a2_3, a2_4, a2_5, -, -, -, -, -, -⟩ := (BP_6.out.keep K2.out).c6; obtain ⟨b2_0, b2_1, b2_2, b2_3, b2_4, b2_5, b2_6, b2_7, b2_8, b2_9, b2_10, b2_11, -, -, -, -, -, -, -, -, -, -, -, -⟩ := (PB_6.out.keep K2.out).c12; clear k2)))
            clear a1_0 a1_1 a1_2 a1_3 a1_4 a1_5 b1_0 b1_1 b1_2 b1_3 b1_4 b1_5 b1_6 b1_7 b1_8 b1_9 b1_10 b1_11 a2_0 a2_1 a2_2 a2_3 a2_4 a2_5 b2_0 b2_1 b2_2 b2_3 b2_4 b2_5 b2_6 b2_7 b2_8 b2_9 b2_10 b2_11
            all_goals
              go_wp2_with fail
              go_roundw
              case rel => exact ⟨3, by omega, by go_num, vb (by rw [orN_3, HL.out]; simp), vb (by rw [orN_3, HH.out]; simp), Lib.hid K2.out⟩
              case measure => simp [intOf]
          · have HL := Lib.hid hL
            have HH := Lib.hid hH
            clear hL hH
            have K0 : Hid (Keep wc _) := Lib.hid (HK.out.trans (keep_drew _))
            go_wp2_with fail
            go_region
            have K1 : Hid (Keep wc _) := Lib.hid (K0.out.trans (keep_drew _))
            go_wp2_with fail
            go_region
            all_goals
              go_wp2_with fail
              go_roundw
              case rel => exact ⟨3, by omega, by go_num, vb (by rw [orN_3, HL.out]; simp), vb (by rw [orN_3, HH.out]; simp), Lib.hid K1.out⟩
              case measure => simp [intOf]
      · skip
        cases hL : orN [b1, b2, b3, b4] 3
        · cases hH : orN [c1, c2, c3, c4] 3
          · have HL := Lib.hid hL
            have HH := Lib.hid hH
            clear hL hH
            have K0 : Hid (Keep wc _) := Lib.hid (HK.out.trans (keep_drew _))
            obtain ⟨a0_0, a0_1, a0_2, a0_3, a0_4, a0_5, -, -, -, -, -, -⟩ := (BP_6.out.keep K0.out).c6
            obtain ⟨b0_0, b0_1, b0_2, b0_3, b0_4, b0_5, b0_6, b0_7, b0_8, b0_9, b0_10, b0_11, -, -, -, -, -, -, -, -, -, -, -, -⟩ := (PB_6.out.keep K0.out).c12
            go_wp2
            go_region_held3 (fun w' => w'.cell? ⟨w4.heap.size, 0, none⟩ = some (.bool mlb) ∧ w'.cell? ⟨w4.heap.size, 1, none⟩ = some (.slice mla mln mlc) ∧ w'.cell? ⟨w4.heap.size, 2, none⟩ = some (.slice mlh mlm mlg) ∧ w'.cell? ⟨w4.heap.size, 3, none⟩ = some (.bool mub) ∧ w'.cell? ⟨w4.heap.size, 4, none⟩ = some (.slice mua mun muc) ∧ w'.cell? ⟨w4.heap.size, 5, none⟩ = some (.slice muh mum mug) ∧ w'.cell? ⟨gA, 0, none⟩ = some (.bool o1b) ∧ w'.cell? ⟨gA, 1, none⟩ = some (.slice o1a o1n o1c) ∧ w'.cell? ⟨gA, 2, none⟩ = some (.slice o1h o1m o1g) ∧ w'.cell? ⟨gA, 3, none⟩ = some (.bool o2b) ∧ w'.cell? ⟨gA, 4, none⟩ = some (.slice o2a o2n o2c) ∧ w'.cell? ⟨gA, 5, none⟩ = some (.slice o2h o2m o2g) ∧ w'.cell? ⟨gA, 6, none⟩ = some (.bool o3b) ∧ w'.cell? ⟨gA, 7, none⟩ = some (.slice o3a o3n o3c) ∧ w'.cell? ⟨gA, 8, none⟩ = some (.slice o3h o3m o3g) ∧ w'.cell? ⟨gA, 9, none⟩ = some (.bool o4b) ∧ w'.cell? ⟨gA, 10, none⟩ = some (.slice o4a o4n o4c) ∧ w'.cell? ⟨gA, 11, none⟩ = some (.slice o4h o4m o4g)) (first | with_reducible exact ⟨a1_0, a1_1, a1_2, a1_3, a1_4, a1_5, b1_0, b1_1, b1_2, b1_3, b1_4, b1_5, b1_6, b1_7, b1_8, b1_9, b1_10, b1_11⟩ | with_reducible exact ⟨a0_0, a0_1, a0_2, a0_3, a0_4, a0_5, b0_0, b0_1, b0_2, b0_3, b0_4, b0_5, b0_6, b0_7, b0_8, b0_9, b0_10, b0_11⟩ | go_keep)
              (first | (go_at_call 33; ((with_reducible refine Calls.mono (SL4.out _ _ _ (ML_6.out.keep K0.out) (Q4_6.out.keep K0.out)) ?_); rintro e v1 ⟨rfl, k1⟩; have K1 : Hid (Keep wc v1) := Lib.hid (K0.out.trans k1); obtain ⟨a1_0, a1_1, a1_2, a1_3, a1_4, a1_5, -, -, -, -, -, -⟩ := (BP_6.out.keep K1.out).c6; obtain ⟨b1_0, b1_1, b1_2, b1_3, b1_4, b1_5, b1_6, b1_7, b1_8, b1_9, b1_10, b1_11, -, -, -, -, -, -, -, -, -, -, -, -⟩ := (PB_6.out.keep K1.out).c12; clear k1)))
            clear a0_0 a0_1 a0_2 a0_3 a0_4 a0_5 b0_0 b0_1 b0_2 b0_3 b0_4 b0_5 b0_6 b0_7 b0_8 b0_9 b0_10 b0_11 a1_0 a1_1 a1_2 a1_3 a1_4 a1_5 b1_0 b1_1 b1_2 b1_3 b1_4 b1_5 b1_6 b1_7 b1_8 b1_9 b1_10 b1_11
            have K2 : Hid (Keep wc _) := Lib.hid (K1.out.trans (keep_drew _))
            obtain ⟨a2_0, a2_1, a2_2, a2_3, a2_4, a2_5, -, -, -, -, -, -⟩ := (BP_6.out.keep K2.out).c6
            obtain ⟨b2_0, b2_1, b2_2, b2_3, b2_4, b2_5, b2_6, b2_7, b2_8, b2_9, b2_10, b2_11, -, -, -, -, -, -, -, -, -, -, -, -⟩ := (PB_6.out.keep K2.out).c12
            go_wp2
            go_region_held3 (fun w' => w'.cell? ⟨w4.heap.size, 0, none⟩ = some (.bool mlb) ∧ w'.cell? ⟨w4.heap.size, 1, none⟩ = some (.slice mla mln mlc) ∧ w'.cell? ⟨w4.heap.size, 2, none⟩ = some (.slice mlh mlm mlg) ∧ w'.cell? ⟨w4.heap.size, 3, none⟩ = some (.bool mub) ∧ w'.cell? ⟨w4.heap.size, 4, none⟩ = some (.slice mua mun muc) ∧ w'.cell? ⟨w4.heap.size, 5, none⟩ = some (.slice muh mum mug) ∧ w'.cell? ⟨gA, 0, none⟩ = some (.bool o1b) ∧ w'.cell? ⟨gA, 1, none⟩ = some (.slice o1a o1n o1c) ∧ w'.cell? ⟨gA, 2, none⟩ = some (.slice o1h o1m o1g) ∧ w'.cell? ⟨gA, 3, none⟩ = some (.bool o2b) ∧ w'.cell? ⟨gA, 4, none⟩ = some (.slice o2a o2n o2c) ∧ w'.cell? ⟨gA, 5, none⟩ = some (.slice o2h o2m o2g) ∧ w'.cell? ⟨gA, 6, none⟩ = some (.bool o3b) ∧ w'.cell? ⟨gA, 7, none⟩ = some (.slice o3a o3n o3c) ∧ w'.cell? ⟨gA, 8, none⟩ = some (.slice o3h o3m o3g) ∧ w'.cell? ⟨gA, 9, none⟩ = some (.bool o4b) ∧ w'.cell? ⟨gA, 10, none⟩ = some (.slice o4a o4n o4c) ∧ w'.cell? ⟨gA, 11, none⟩ = some (.slice o4h o4m o4g)) (first | with_reducible exact ⟨a3_0, a3_1, a3_2, a3_3, a3_4, a3_5, b3_0, b3_1, b3_2, b3_3, b3_4, b3_5, b3_6, b3_7, b3_8, b3_9, b3_10, b3_11⟩ | with_reducible exact ⟨a2_0, a2_1, a2_2, a2_3, a2_4, a2_5, b2_0, b2_1, b2_2, b2_3, b2_4, b2_5, b2_6, b2_7, b2_8, b2_9, b2_10, b2_11⟩ | go_keep)
              (first | (go_at_call 33; ((with_reducible refine Calls.mono (SU4.out _ _ _ (MH_6.out.keep K2.out) (Q4_6.out.keep K2.out)) ?_); rintro e v3 ⟨rfl, k3⟩; have K3 : Hid (Keep wc v3) := Lib.hid (K2.out.trans k3); obtain ⟨a3_0, a3_1, a3_2, a3_3, a3_4, a3_5, -, -, -, -, -, -⟩ := (BP_6.out.keep K3.out).c6; obtain ⟨b3_0, b3_1, b3_2, b3_3, b3_4, b3_5, b3_6, b3_7, b3_8, b3_9, b3_10, b3_11, -, -, -, -, -, -, -, -, -, -, -, -⟩ := (PB_6.out.keep K3.out).c12; clear k3)))
            clear a2_0 a2_1 a2_2 a2_3 a2_4 a2_5 b2_0 b2_1 b2_2 b2_3 b2_4 b2_5 b2_6 b2_7 b2_8 b2_9 b2_10 b2_11 a3_0 a3_1 a3_2 a3_3 a3_4 a3_5 b3_0 b3_1 b3_2 b3_3 b3_4 b3_5 b3_6 b3_7 b3_8 b3_9 b3_10 b3_11
            all_goals
              go_wp2_with fail
              go_roundw
              case rel => exact ⟨4, by omega, by go_num, vb (by rw [orN_4, HL.out]; simp), vb (by rw [orN_4, HH.out]; simp), Lib.hid K3.out⟩
              case measure => simp [intOf]
          · have HL := Lib.hid hL
            have HH := Lib.hid hH
            clear hL hH
            have K0 : Hid (Keep wc _) := Lib.hid (HK.out.trans (keep_drew _))
            obtain ⟨a0_0, a0_1, a0_2, a0_3, a0_4, a0_5, -, -, -, -, -, -⟩ := (BP_6.out.keep K0.out).c6
            obtain ⟨b0_0, b0_1, b0_2, b0_3, b0_4, b0_5, b0_6, b0_7, b0_8, b0_9, b0_10, b0_11, -, -, -, -, -, -, -, -, -, -, -, -⟩ := (PB_6.out.keep K0.out).c12
            go_wp2
            go_region_held3 (fun w' => w'.cell? ⟨w4.heap.size, 0, none⟩ = some (.bool mlb) ∧ w'.cell? ⟨w4.heap.size, 1, none⟩ = some (.slice mla mln mlc) ∧ w'.cell? ⟨w4.heap.size, 2, none⟩ = some (.slice mlh mlm mlg) ∧ w'.cell? ⟨w4.heap.size, 3, none⟩ = some (.bool mub) ∧ w'.cell? ⟨w4.heap.size, 4, none⟩ = some (.slice mua mun muc) ∧ w'.cell? ⟨w4.heap.size, 5, none⟩ = some (.slice muh mum mug) ∧ w'.cell? ⟨gA, 0, none⟩ = some (.bool o1b) ∧ w'.cell? ⟨gA, 1, none⟩ = some (.slice o1a o1n o1c) ∧ w'.cell? ⟨gA, 2, none⟩ = some (.slice o1h o1m o1g) ∧ w'.cell? ⟨gA, 3, none⟩ = some (.bool o2b) ∧ w'.cell? ⟨gA, 4, none⟩ = some (.slice o2a o2n o2c) ∧ w'.cell? ⟨gA, 5, none⟩ = some (.slice o2h o2m o2g) ∧ w'.cell? ⟨gA, 6, none⟩ = some (.bool o3b) ∧ w'.cell? ⟨gA, 7, none⟩ = some (.slice o3a o3n o3c) ∧ w'.cell? ⟨gA, 8, none⟩ = some (.slice o3h o3m o3g) ∧ w'.cell? ⟨gA, 9, none⟩ = some (.bool o4b) ∧ w'.cell? ⟨gA, 10, none⟩ = some (.slice o4a o4n o4c) ∧ w'.cell? ⟨gA, 11, none⟩ = some (.slice o4h o4m o4g)) (first | with_reducible exact ⟨a1_0, a1_1, a1_2, a1_3, a1_4, a1_5, b1_0, b1_1, b1_2, b1_3, b1_4, b1_5, b1_6, b1_7, b1_8, b1_9, b1_10, b1_11⟩ | with_reducible exact ⟨a0_0, a0_1, a0_2, a0_3, a0_4, a0_5, b0_0, b0_1, b0_2, b0_3, b0_4, b0_5, b0_6, b0_7, b0_8, b0_9, b0_10, b0_11⟩ | go_keep)
              (first | (go_at_call 33; ((with_reducible refine Calls.mono (SL4.out _ _ _ (ML_6.out.keep K0.out) (Q4_6.out.keep K0.out)) ?_); rintro e v1 ⟨rfl, k1⟩; have K1 : Hid (Keep wc v1) := Lib.hid (K0.out.trans k1); obtain ⟨a1_0, a1_1, a1_2, a1_3, a1_4, a1_5, -, -, -, -, -, -⟩ := (BP_6.out.keep K1.out).c6; obtain ⟨b1_0, b1_1, b1_2, b1_3, b1_4, b1_5, b1_6, b1_7, b1_8, b1_9, b1_10, b1_11, -, -, -, -, -, -, -, -, -, -, -, -⟩ := (PB_6.out.keep K1.out).c12; clear k1)))
            clear a0_0 a0_1 a0_2 a0_3 a0_4 a0_5 b0_0 b0_1 b0_2 b0_3 b0_4 b0_5 b0_6 b0_7 b0_8 b0_9 b0_10 b0_11 a1_0 a1_1 a1_2 a1_3 a1_4 a1_5 b1_0 b1_1 b1_2 b1_3 b1_4 b1_5 b1_6 b1_7 b1_8 b1_9 b1_10 b1_11
            have K2 : Hid (Keep wc _) := Lib.hid (K1.out.trans (keep_drew _))
            go_wp2_with fail
            go_region
            all_goals
              go_wp2_with fail
              go_roundw
              case rel => exact ⟨4, by omega, by go_num, vb (by rw [orN_4, HL.out]; simp), vb (by rw [orN_4, HH.out]; simp), Lib.hid K2.out⟩
              case measure => simp [intOf]
        · cases hH : orN [c1, c2, c3, c4] 3
          · have HL := Lib.hid hL
            have HH := Lib.hid hH
            clear hL hH
            have K0 : Hid (Keep wc _) := Lib.hid (HK.out.trans (keep_drew _))
            go_wp2_with fail
            go_region
            have K1 : Hid (Keep wc _) := Lib.hid (K0.out.trans (keep_drew _))
            obtain ⟨a1_0, a1_1, a1_2, a1_3, a1_4, a1_5, -, -, -, -, -, -⟩ := (BP_6.out.keep K1.out).c6
            obtain ⟨b1_0, b1_1, b1_2, b1_3, b1_4, b1_5, b1_6, b1_7, b1_8, b1_9, b1_10, b1_11, -, -, -, -, -, -, -, -, -, -, -, -⟩ := (PB_6.out.keep K1.out).c12
            go_wp2
            go_region_held3 (fun w' => w'.cell? ⟨w4.heap.size, 0, none⟩ = some (.bool mlb) ∧ w'.cell? ⟨w4.heap.size, 1, none⟩ = some (.slice mla mln mlc) ∧ w'.cell? ⟨w4.heap.size, 2, none⟩ = some (.slice mlh mlm mlg) ∧ w'.cell? ⟨w4.heap.size, 3, none⟩ = some (.bool mub) ∧ w'.cell? ⟨w4.heap.size, 4, none⟩ = some (.slice mua mun muc) ∧ w'.cell? ⟨w4.heap.size, 5, none⟩ = some (.slice muh mum mug) ∧ w'.cell? ⟨gA, 0, none⟩ = some (.bool o1b) ∧ w'.cell? ⟨gA, 1, none⟩ = some (.slice o1a o1n o1c) ∧ w'.cell? ⟨gA, 2, none⟩ = some (.slice o1h o1m o1g) ∧ w'.cell? ⟨gA, 3, none⟩ = some (.bool o2b) ∧ w'.cell? ⟨gA, 4, none⟩ = some (.slice o2a o2n o2c) ∧ w'.cell? ⟨gA, 5, none⟩ = some (.slice o2h o2m o2g) ∧ w'.cell? ⟨gA, 6, none⟩ = some (.bool o3b) ∧ w'.cell? ⟨gA, 7, none⟩ = some (.slice o3a o3n o3c) ∧ w'.cell? ⟨gA, 8, none⟩ = some (.slice o3h o3m o3g) ∧ w'.cell? ⟨gA, 9, none⟩ = some (.bool o4b) ∧ w'.cell? ⟨gA, 10, none⟩ = some (.slice o4a o4n o4c) ∧ w'.cell? ⟨gA, 11, none⟩ = some (.slice o4h o4m o4g)) (first | with_reducible exact ⟨a2_0, a2_1, a2_2, a2_3, a2_4, a2_5, b2_0, b2_1, b2_2, b2_3, b2_4, b2_5, b2_6, b2_7, b2_8, b2_9, b2_10, b2_11⟩ | with_reducible exact ⟨a1_0, a1_1, a1_2, a1_3, a1_4, a1_5, b1_0, b1_1, b1_2, b1_3, b1_4, b1_5, b1_6, b1_7, b1_8, b1_9, b1_10, b1_11⟩ | go_keep)
              (first | (go_at_call 33; ((with_reducible refine Calls.mono (SU4.out _ _ _ (MH_6.out.keep K1.out) (Q4_6.out.keep K1.out)) ?_); rintro e v2 ⟨rfl, k2⟩; have K2 : Hid (Keep wc v2) := Lib.hid (K1.out.trans k2); obtain ⟨a2_0, a2_1, a2_2, a2_3, a2_4, a2_5, -, -, -, -, -, -⟩ := (BP_6.out.keep K2.out).c6; obtain ⟨b2_0, b2_1, b2_2, b2_3, b2_4, b2_5, b2_6, b2_7, b2_8, b2_9, b2_10, b2_11, -, -, -, -, -, -, -, -, -, -, -, -⟩ := (PB_6.out.keep K2.out).c12; clear k2)))
            clear a1_0 a1_1 a1_2 a1_3 a1_4 a1_5 b1_0 b1_1 b1_2 b1_3 b1_4 b1_5 b1_6 b1_7 b1_8 b1_9 b1_10 b1_11 a2_0 a2_1 a2_2 a2_3 a2_4 a2_5 b2_0 b2_1 b2_2 b2_3 b2_4 b2_5 b2_6 b2_7 b2_8 b2_9 b2_10 b2_11
            all_goals
              go_wp2_with fail
              go_roundw
              case rel => exact ⟨4, by omega, by go_num, vb (by rw [orN_4, HL.out]; simp), vb (by rw [orN_4, HH.out]; simp), Lib.hid K2.out⟩
              case measure => simp [intOf]
          · have HL := Lib.hid hL
            have HH := Lib.hid hH
            clear hL hH
            have K0 : Hid (Keep wc _) := Lib.hid (HK.out.trans (keep_drew _))
            go_wp2_with fail
            go_region
            have K1 : Hid (Keep wc _) := Lib.hid (K0.out.trans (keep_drew _))
            go_wp2_with fail
            go_region
            all_goals
              go_wp2_with fail
              go_roundw
              case rel => exact ⟨4, by omega, by go_num, vb (by rw [orN_4, HL.out]; simp), vb (by rw [orN_4, HH.out]; simp), Lib.hid K1.out⟩
              case measure => simp [intOf]
theorem tight_law_c {w : World} {xlb : Bool} {xla xlh : Option Addr} {xln xlc xlm xlg : Nat} {xub : Bool} {xua xuh : Option Addr} {xun xuc xum xug : Nat} {xl1 xl2 xu1 xu2 : List Nat} (hx1 : Rd w xla xln xlc xl1) (hx2 : Rd w xlh xlm xlg xl2) (hx3 : Rd w xua xun xuc xu1) (hx4 : Rd w xuh xum xug xu2) {ylb : Bool} {yla ylh : Option Addr} {yln ylc ylm ylg : Nat} {yub : Bool} {yua yuh : Option Addr} {yun yuc yum yug : Nat} {yl1 yl2 yu1 yu2 : List Nat} (hy1 : Rd w yla yln ylc yl1) (hy2 : Rd w ylh ylm ylg yl2) (hy3 : Rd w yua yun yuc yu1) (hy4 : Rd w yuh yum yug yu2) (hT : Tab w) : Calls Tryd.prog 6 #[.agg #[.bool xlb, .slice xla xln xlc, .slice xlh xlm xlg, .bool xub, .slice xua xun xuc, .slice xuh xum xug], .agg #[.bool ylb, .slice yla yln ylc, .slice ylh ylm ylg, .bool yub, .slice yua yun yuc, .slice yuh yum yug]] w (BPost true w) := by
  by_cases ex : smallB xlb xl1 xl2 xub xu1 xu2 = true
  · by_cases ey : smallB ylb yl1 yl2 yub yu1 yu2 = true
    · exact tight_law_s hx1 hx2 hx3 hx4 hy1 hy2 hy3 hy4 hT ex ey
    · rw [Bool.not_eq_true] at ey; exact tight_law_b1 hx1 hx2 hx3 hx4 hy1 hy2 hy3 hy4 hT ex ey
  · rw [Bool.not_eq_true] at ex; exact tight_law_b0 hx1 hx2 hx3 hx4 hy1 hy2 hy3 hy4 hT ex
end Go.Proofs.YtbcakefhknjbeaaDoor
