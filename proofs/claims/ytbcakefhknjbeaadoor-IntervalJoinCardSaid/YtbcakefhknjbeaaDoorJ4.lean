/- Walks of layer 6: Same, Valid, short, small. -/
import Derived.Test.YtbcakefhknjbeaaDoorJ3
import Derived.Test.YtbcakefhknjbeaaDoorRR7
namespace Go.Proofs.YtbcakefhknjbeaaDoor
open Go.RowKit
set_option linter.unusedVariables false
set_option maxHeartbeats 800000 in
theorem isame_t {w : World} {vx vy : Value} {p q : Rat} (hx : ICr w vx p q) (hy : ICr w vy p q) : Calls Tryd.prog 20 #[vx, vy] w (BPost true w) := by
  obtain ⟨xlb, xla, xln, xlc, xlh, xlm, xlg, xub, xua, xun, xuc, xuh, xum, xug, rfl, hxl, hxu⟩ := hx
  obtain ⟨ylb, yla, yln, ylc, ylh, ylm, ylg, yub, yua, yun, yuc, yuh, yum, yug, rfl, hyl, hyu⟩ := hy
  have KW_0 := Lib.hid (show Keep w ((w.alloc (.cells #[.bool xlb, .slice xla xln xlc, .slice xlh xlm xlg, .bool xub, .slice xua xun xuc, .slice xuh xum xug] 35)).alloc (.cells #[.bool ylb, .slice yla yln ylc, .slice ylh ylm ylg, .bool yub, .slice yua yun yuc, .slice yuh yum yug] 35)) from (Keep.alloc (Keep.alloc (Keep.refl _) _) _))
  have BX_0 := Lib.hid (show Bx (w.heap.size) [.bool xlb, .slice xla xln xlc, .slice xlh xlm xlg, .bool xub, .slice xua xun xuc, .slice xuh xum xug] ((w.alloc (.cells #[.bool xlb, .slice xla xln xlc, .slice xlh xlm xlg, .bool xub, .slice xua xun xuc, .slice xuh xum xug] 35)).alloc (.cells #[.bool ylb, .slice yla yln ylc, .slice ylh ylm ylg, .bool yub, .slice yua yun yuc, .slice yuh yum yug] 35)) from ((Bx.new w 35 (.b _ (.s _ _ _ (.s _ _ _ (.b _ (.s _ _ _ (.s _ _ _ .nil))))))).at (g' := w.heap.size) (by simp)).keep (Keep.alloc (Keep.refl _) _))
  have BY_0 := Lib.hid (show Bx (w.heap.size + 1) [.bool ylb, .slice yla yln ylc, .slice ylh ylm ylg, .bool yub, .slice yua yun yuc, .slice yuh yum yug] ((w.alloc (.cells #[.bool xlb, .slice xla xln xlc, .slice xlh xlm xlg, .bool xub, .slice xua xun xuc, .slice xuh xum xug] 35)).alloc (.cells #[.bool ylb, .slice yla yln ylc, .slice ylh ylm ylg, .bool yub, .slice yua yun yuc, .slice yuh yum yug] 35)) from ((Bx.new (w.alloc (.cells #[.bool xlb, .slice xla xln xlc, .slice xlh xlm xlg, .bool xub, .slice xua xun xuc, .slice xuh xum xug] 35)) 35 (.b _ (.s _ _ _ (.s _ _ _ (.b _ (.s _ _ _ (.s _ _ _ .nil))))))).at (g' := w.heap.size + 1) (by simp)).keep (Keep.refl _))
  have XL_0 := Lib.hid (hxl.keep KW_0.out)
  have XU_0 := Lib.hid (hxu.keep KW_0.out)
  have YL_0 := Lib.hid (hyl.keep KW_0.out)
  have YU_0 := Lib.hid (hyu.keep KW_0.out)
  clear hxl hxu hyl hyu
  go_enter Tryd.func20, Tryd.ntmps20
  obtain ⟨BX_c0, BX_c1, BX_c2, BX_c3, BX_c4, BX_c5, -, -, -, -, -, -⟩ := BX_0.out.c6
  obtain ⟨BY_c0, BY_c1, BY_c2, BY_c3, BY_c4, BY_c5, -, -, -, -, -, -⟩ := BY_0.out.c6
  go_wp2_with fail
  refine Calls.mono (qsame_t XL_0.out YL_0.out) ?_
  rintro e w1 ⟨rfl, k1⟩
  clear BX_c0 BX_c1 BX_c2 BX_c3 BX_c4 BX_c5 BY_c0 BY_c1 BY_c2 BY_c3 BY_c4 BY_c5
  have BX_1 := Lib.hid (BX_0.out.keep k1)
  have BY_1 := Lib.hid (BY_0.out.keep k1)
  have XL_1 := Lib.hid (XL_0.out.keep k1)
  have XU_1 := Lib.hid (XU_0.out.keep k1)
  have YL_1 := Lib.hid (YL_0.out.keep k1)
  have YU_1 := Lib.hid (YU_0.out.keep k1)
  have KW_1 := Lib.hid (KW_0.out.trans k1)
  clear k1 BX_0 BY_0 XL_0 XU_0 YL_0 YU_0 KW_0
  obtain ⟨BX_c0, BX_c1, BX_c2, BX_c3, BX_c4, BX_c5, -, -, -, -, -, -⟩ := BX_1.out.c6
  obtain ⟨BY_c0, BY_c1, BY_c2, BY_c3, BY_c4, BY_c5, -, -, -, -, -, -⟩ := BY_1.out.c6
  go_wp2_with fail
  refine Calls.mono (qsame_t XU_1.out YU_1.out) ?_
  rintro e w2 ⟨rfl, k2⟩
  clear BX_c0 BX_c1 BX_c2 BX_c3 BX_c4 BX_c5 BY_c0 BY_c1 BY_c2 BY_c3 BY_c4 BY_c5
  have BX_2 := Lib.hid (BX_1.out.keep k2)
  have BY_2 := Lib.hid (BY_1.out.keep k2)
  have XL_2 := Lib.hid (XL_1.out.keep k2)
  have XU_2 := Lib.hid (XU_1.out.keep k2)
  have YL_2 := Lib.hid (YL_1.out.keep k2)
  have YU_2 := Lib.hid (YU_1.out.keep k2)
  have KW_2 := Lib.hid (KW_1.out.trans k2)
  clear k2 BX_1 BY_1 XL_1 XU_1 YL_1 YU_1 KW_1
  obtain ⟨BX_c0, BX_c1, BX_c2, BX_c3, BX_c4, BX_c5, -, -, -, -, -, -⟩ := BX_2.out.c6
  obtain ⟨BY_c0, BY_c1, BY_c2, BY_c3, BY_c4, BY_c5, -, -, -, -, -, -⟩ := BY_2.out.c6
  go_wp2_with fail
  go_ret
  exact ⟨rfl, KW_2.out⟩
/-- a valid interval, as its limbs are read -/
def validI (s : Bool) (l m : List Nat) (t : Bool) (r u : List Nat) : Bool := okQ s l m && okQ t r u && decide (rv s (nv l) (nv m) ≤ rv t (nv r) (nv u))
def smallB (s : Bool) (l m : List Nat) (t : Bool) (r u : List Nat) : Bool := decide (l.length ≤ 2 ∧ m.length ≤ 2) && decide (r.length ≤ 2 ∧ u.length ≤ 2) && validI s l m t r u
theorem smallB_le {s : Bool} {l m : List Nat} {t : Bool} {r u : List Nat} (h : smallB s l m t r u = true) : (l.length ≤ 2 ∧ m.length ≤ 2) ∧ (r.length ≤ 2 ∧ u.length ≤ 2) ∧ rv s (nv l) (nv m) ≤ rv t (nv r) (nv u) := by
  unfold smallB validI at h
  simp only [Bool.and_eq_true, decide_eq_true_eq] at h
  exact ⟨h.1.1, h.1.2, h.2.2⟩
theorem rdRa {w : World} {s : Bool} {a a' : Option Addr} {n c n' c' k : Nat} {l l' : List Nat} (h : Rd w a n c l) (h' : Rd w a' n' c' l') (hl : l.length ≤ k) (hl' : l'.length ≤ k) : Ra w (.agg #[.bool s, .slice a n c, .slice a' n' c']) (rv s (nv l) (nv l')) k :=
  ⟨_, _, _, _, _, rfl, h.toNm rfl hl, h'.toNm rfl hl', rfl⟩
set_option maxHeartbeats 800000 in
theorem rivalid_f {w : World} {k : Nat} {xlb : Bool} {xla xlh : Option Addr} {xln xlc xlm xlg : Nat} {xub : Bool} {xua xuh : Option Addr} {xun xuc xum xug : Nat} {xl1 xl2 xu1 xu2 : List Nat} (hx1 : Rd w xla xln xlc xl1) (hx2 : Rd w xlh xlm xlg xl2) (hx3 : Rd w xua xun xuc xu1) (hx4 : Rd w xuh xum xug xu2) (jx1 : xl1.length ≤ k) (jx2 : xl2.length ≤ k) (jx3 : xu1.length ≤ k) (jx4 : xu2.length ≤ k) (hk : k ≤ 40) (hk1 : 1 ≤ k) (e1 : okQ xlb xl1 xl2 = false) : Calls Tryd.prog 22 #[.agg #[.bool xlb, .slice xla xln xlc, .slice xlh xlm xlg, .bool xub, .slice xua xun xuc, .slice xuh xum xug]] w (BPost (false) w) := by
  have KW_0 := Lib.hid (show Keep w (w.alloc (.cells #[.bool xlb, .slice xla xln xlc, .slice xlh xlm xlg, .bool xub, .slice xua xun xuc, .slice xuh xum xug] 35)) from (Keep.alloc (Keep.refl _) _))
  have BX_0 := Lib.hid (show Bx (w.heap.size) [.bool xlb, .slice xla xln xlc, .slice xlh xlm xlg, .bool xub, .slice xua xun xuc, .slice xuh xum xug] (w.alloc (.cells #[.bool xlb, .slice xla xln xlc, .slice xlh xlm xlg, .bool xub, .slice xua xun xuc, .slice xuh xum xug] 35)) from ((Bx.new w 35 (.b _ (.s _ _ _ (.s _ _ _ (.b _ (.s _ _ _ (.s _ _ _ .nil))))))).at (g' := w.heap.size) (by simp)).keep (Keep.refl _))
  have X1_0 := Lib.hid (hx1.below KW_0.out)
  have X2_0 := Lib.hid (hx2.below KW_0.out)
  have X3_0 := Lib.hid (hx3.below KW_0.out)
  have X4_0 := Lib.hid (hx4.below KW_0.out)
  have hrxl := rdRa (s := xlb) hx1 hx2 jx1 jx2
  have hrxu := rdRa (s := xub) hx3 hx4 jx3 jx4
  have XL_0 := Lib.hid (hrxl.keep KW_0.out)
  have XU_0 := Lib.hid (hrxu.keep KW_0.out)
  have V1 := Lib.hid (fun w1 (h : Rd w1 xla xln xlc xl1) (h' : Rd w1 xlh xlm xlg xl2) => rqvalid_c (s := xlb) h h' jx1 jx2 (by omega) hk1)
  have V2 := Lib.hid (fun w1 (h : Rd w1 xua xun xuc xu1) (h' : Rd w1 xuh xum xug xu2) => rqvalid_c (s := xub) h h' jx3 jx4 (by omega) hk1)
  rw [e1] at V1
  obtain ⟨p, hp⟩ : ∃ p, rv xlb (nv xl1) (nv xl2) = p := ⟨_, rfl⟩
  obtain ⟨q, hq⟩ : ∃ q, rv xub (nv xu1) (nv xu2) = q := ⟨_, rfl⟩
  rw [hp] at XL_0
  rw [hq] at XU_0
  clear hp hq e1  hrxl hrxu hx1 hx2 hx3 hx4
  go_enter Tryd.func22, Tryd.ntmps22
  obtain ⟨BX_c0, BX_c1, BX_c2, BX_c3, BX_c4, BX_c5, -, -, -, -, -, -⟩ := BX_0.out.c6
  go_wp2_with fail
  refine Calls.mono (V1.out _ X1_0.out X2_0.out) ?_
  rintro e w1 ⟨rfl, k1⟩
  clear BX_c0 BX_c1 BX_c2 BX_c3 BX_c4 BX_c5
  have BX_1 := Lib.hid (BX_0.out.keep k1)
  have X1_1 := Lib.hid (X1_0.out.keep k1)
  have X2_1 := Lib.hid (X2_0.out.keep k1)
  have X3_1 := Lib.hid (X3_0.out.keep k1)
  have X4_1 := Lib.hid (X4_0.out.keep k1)
  have XL_1 := Lib.hid (XL_0.out.keep k1)
  have XU_1 := Lib.hid (XU_0.out.keep k1)
  have KW_1 := Lib.hid (KW_0.out.trans k1)
  clear k1 BX_0 X1_0 X2_0 X3_0 X4_0 XL_0 XU_0 KW_0
  obtain ⟨BX_c0, BX_c1, BX_c2, BX_c3, BX_c4, BX_c5, -, -, -, -, -, -⟩ := BX_1.out.c6
  go_wp2_with fail
  go_ret
  exact ⟨rfl, KW_1.out⟩
set_option maxHeartbeats 800000 in
theorem rivalid_g {w : World} {k : Nat} {xlb : Bool} {xla xlh : Option Addr} {xln xlc xlm xlg : Nat} {xub : Bool} {xua xuh : Option Addr} {xun xuc xum xug : Nat} {xl1 xl2 xu1 xu2 : List Nat} (hx1 : Rd w xla xln xlc xl1) (hx2 : Rd w xlh xlm xlg xl2) (hx3 : Rd w xua xun xuc xu1) (hx4 : Rd w xuh xum xug xu2) (jx1 : xl1.length ≤ k) (jx2 : xl2.length ≤ k) (jx3 : xu1.length ≤ k) (jx4 : xu2.length ≤ k) (hk : k ≤ 40) (hk1 : 1 ≤ k) (e1 : okQ xlb xl1 xl2 = true) (e2 : okQ xub xu1 xu2 = false) : Calls Tryd.prog 22 #[.agg #[.bool xlb, .slice xla xln xlc, .slice xlh xlm xlg, .bool xub, .slice xua xun xuc, .slice xuh xum xug]] w (BPost (false) w) := by
  have KW_0 := Lib.hid (show Keep w (w.alloc (.cells #[.bool xlb, .slice xla xln xlc, .slice xlh xlm xlg, .bool xub, .slice xua xun xuc, .slice xuh xum xug] 35)) from (Keep.alloc (Keep.refl _) _))
  have BX_0 := Lib.hid (show Bx (w.heap.size) [.bool xlb, .slice xla xln xlc, .slice xlh xlm xlg, .bool xub, .slice xua xun xuc, .slice xuh xum xug] (w.alloc (.cells #[.bool xlb, .slice xla xln xlc, .slice xlh xlm xlg, .bool xub, .slice xua xun xuc, .slice xuh xum xug] 35)) from ((Bx.new w 35 (.b _ (.s _ _ _ (.s _ _ _ (.b _ (.s _ _ _ (.s _ _ _ .nil))))))).at (g' := w.heap.size) (by simp)).keep (Keep.refl _))
  have X1_0 := Lib.hid (hx1.below KW_0.out)
  have X2_0 := Lib.hid (hx2.below KW_0.out)
  have X3_0 := Lib.hid (hx3.below KW_0.out)
  have X4_0 := Lib.hid (hx4.below KW_0.out)
  have hrxl := rdRa (s := xlb) hx1 hx2 jx1 jx2
  have hrxu := rdRa (s := xub) hx3 hx4 jx3 jx4
  have XL_0 := Lib.hid (hrxl.keep KW_0.out)
  have XU_0 := Lib.hid (hrxu.keep KW_0.out)
  have V1 := Lib.hid (fun w1 (h : Rd w1 xla xln xlc xl1) (h' : Rd w1 xlh xlm xlg xl2) => rqvalid_c (s := xlb) h h' jx1 jx2 (by omega) hk1)
  have V2 := Lib.hid (fun w1 (h : Rd w1 xua xun xuc xu1) (h' : Rd w1 xuh xum xug xu2) => rqvalid_c (s := xub) h h' jx3 jx4 (by omega) hk1)
  rw [e1] at V1
  rw [e2] at V2
  obtain ⟨p, hp⟩ : ∃ p, rv xlb (nv xl1) (nv xl2) = p := ⟨_, rfl⟩
  obtain ⟨q, hq⟩ : ∃ q, rv xub (nv xu1) (nv xu2) = q := ⟨_, rfl⟩
  rw [hp] at XL_0
  rw [hq] at XU_0
  clear hp hq e1 e2 hrxl hrxu hx1 hx2 hx3 hx4
  go_enter Tryd.func22, Tryd.ntmps22
  obtain ⟨BX_c0, BX_c1, BX_c2, BX_c3, BX_c4, BX_c5, -, -, -, -, -, -⟩ := BX_0.out.c6
  go_wp2_with fail
  refine Calls.mono (V1.out _ X1_0.out X2_0.out) ?_
  rintro e w1 ⟨rfl, k1⟩
  clear BX_c0 BX_c1 BX_c2 BX_c3 BX_c4 BX_c5
  have BX_1 := Lib.hid (BX_0.out.keep k1)
  have X1_1 := Lib.hid (X1_0.out.keep k1)
  have X2_1 := Lib.hid (X2_0.out.keep k1)
  have X3_1 := Lib.hid (X3_0.out.keep k1)
  have X4_1 := Lib.hid (X4_0.out.keep k1)
  have XL_1 := Lib.hid (XL_0.out.keep k1)
  have XU_1 := Lib.hid (XU_0.out.keep k1)
  have KW_1 := Lib.hid (KW_0.out.trans k1)
  clear k1 BX_0 X1_0 X2_0 X3_0 X4_0 XL_0 XU_0 KW_0
  obtain ⟨BX_c0, BX_c1, BX_c2, BX_c3, BX_c4, BX_c5, -, -, -, -, -, -⟩ := BX_1.out.c6
  go_wp2_with fail
  refine Calls.mono (V2.out _ X3_1.out X4_1.out) ?_
  rintro e w2 ⟨rfl, k2⟩
  clear BX_c0 BX_c1 BX_c2 BX_c3 BX_c4 BX_c5
  have BX_2 := Lib.hid (BX_1.out.keep k2)
  have X1_2 := Lib.hid (X1_1.out.keep k2)
  have X2_2 := Lib.hid (X2_1.out.keep k2)
  have X3_2 := Lib.hid (X3_1.out.keep k2)
  have X4_2 := Lib.hid (X4_1.out.keep k2)
  have XL_2 := Lib.hid (XL_1.out.keep k2)
  have XU_2 := Lib.hid (XU_1.out.keep k2)
  have KW_2 := Lib.hid (KW_1.out.trans k2)
  clear k2 BX_1 X1_1 X2_1 X3_1 X4_1 XL_1 XU_1 KW_1
  obtain ⟨BX_c0, BX_c1, BX_c2, BX_c3, BX_c4, BX_c5, -, -, -, -, -, -⟩ := BX_2.out.c6
  go_wp2_with fail
  go_ret
  exact ⟨rfl, KW_2.out⟩
set_option maxHeartbeats 800000 in
theorem rivalid_t {w : World} {k : Nat} {xlb : Bool} {xla xlh : Option Addr} {xln xlc xlm xlg : Nat} {xub : Bool} {xua xuh : Option Addr} {xun xuc xum xug : Nat} {xl1 xl2 xu1 xu2 : List Nat} (hx1 : Rd w xla xln xlc xl1) (hx2 : Rd w xlh xlm xlg xl2) (hx3 : Rd w xua xun xuc xu1) (hx4 : Rd w xuh xum xug xu2) (jx1 : xl1.length ≤ k) (jx2 : xl2.length ≤ k) (jx3 : xu1.length ≤ k) (jx4 : xu2.length ≤ k) (hk : k ≤ 40) (hk1 : 1 ≤ k) (e1 : okQ xlb xl1 xl2 = true) (e2 : okQ xub xu1 xu2 = true) : Calls Tryd.prog 22 #[.agg #[.bool xlb, .slice xla xln xlc, .slice xlh xlm xlg, .bool xub, .slice xua xun xuc, .slice xuh xum xug]] w (BPost (decide (rv xlb (nv xl1) (nv xl2) ≤ rv xub (nv xu1) (nv xu2))) w) := by
  have KW_0 := Lib.hid (show Keep w (w.alloc (.cells #[.bool xlb, .slice xla xln xlc, .slice xlh xlm xlg, .bool xub, .slice xua xun xuc, .slice xuh xum xug] 35)) from (Keep.alloc (Keep.refl _) _))
  have BX_0 := Lib.hid (show Bx (w.heap.size) [.bool xlb, .slice xla xln xlc, .slice xlh xlm xlg, .bool xub, .slice xua xun xuc, .slice xuh xum xug] (w.alloc (.cells #[.bool xlb, .slice xla xln xlc, .slice xlh xlm xlg, .bool xub, .slice xua xun xuc, .slice xuh xum xug] 35)) from ((Bx.new w 35 (.b _ (.s _ _ _ (.s _ _ _ (.b _ (.s _ _ _ (.s _ _ _ .nil))))))).at (g' := w.heap.size) (by simp)).keep (Keep.refl _))
  have X1_0 := Lib.hid (hx1.below KW_0.out)
  have X2_0 := Lib.hid (hx2.below KW_0.out)
  have X3_0 := Lib.hid (hx3.below KW_0.out)
  have X4_0 := Lib.hid (hx4.below KW_0.out)
  have hrxl := rdRa (s := xlb) hx1 hx2 jx1 jx2
  have hrxu := rdRa (s := xub) hx3 hx4 jx3 jx4
  have XL_0 := Lib.hid (hrxl.keep KW_0.out)
  have XU_0 := Lib.hid (hrxu.keep KW_0.out)
  have V1 := Lib.hid (fun w1 (h : Rd w1 xla xln xlc xl1) (h' : Rd w1 xlh xlm xlg xl2) => rqvalid_c (s := xlb) h h' jx1 jx2 (by omega) hk1)
  have V2 := Lib.hid (fun w1 (h : Rd w1 xua xun xuc xu1) (h' : Rd w1 xuh xum xug xu2) => rqvalid_c (s := xub) h h' jx3 jx4 (by omega) hk1)
  rw [e1] at V1
  rw [e2] at V2
  obtain ⟨p, hp⟩ : ∃ p, rv xlb (nv xl1) (nv xl2) = p := ⟨_, rfl⟩
  obtain ⟨q, hq⟩ : ∃ q, rv xub (nv xu1) (nv xu2) = q := ⟨_, rfl⟩
  rw [hp] at XL_0 ⊢
  rw [hq] at XU_0 ⊢
  have C1 := Lib.hid (fun w1 (h : Ra w1 (.agg #[.bool xlb, .slice xla xln xlc, .slice xlh xlm xlg]) p k) (h' : Ra w1 (.agg #[.bool xub, .slice xua xun xuc, .slice xuh xum xug]) q k) => rqcmp_c h h' (by omega) hk1)
  obtain ⟨z, hz⟩ : ∃ z, rC p q = z := ⟨_, rfl⟩
  obtain ⟨d, hd⟩ : ∃ d, decide (p ≤ q) = d := ⟨_, rfl⟩
  have dz : decide (z ≤ 0) = d := by rw [← hz, ← hd]; exact decide_eq_decide.2 rC_le
  rw [hz] at C1
  rw [hd]
  clear hz hd
  clear hp hq e1 e2 hrxl hrxu hx1 hx2 hx3 hx4
  go_enter Tryd.func22, Tryd.ntmps22
  obtain ⟨BX_c0, BX_c1, BX_c2, BX_c3, BX_c4, BX_c5, -, -, -, -, -, -⟩ := BX_0.out.c6
  go_wp2_with fail
  refine Calls.mono (V1.out _ X1_0.out X2_0.out) ?_
  rintro e w1 ⟨rfl, k1⟩
  clear BX_c0 BX_c1 BX_c2 BX_c3 BX_c4 BX_c5
  have BX_1 := Lib.hid (BX_0.out.keep k1)
  have X1_1 := Lib.hid (X1_0.out.keep k1)
  have X2_1 := Lib.hid (X2_0.out.keep k1)
  have X3_1 := Lib.hid (X3_0.out.keep k1)
  have X4_1 := Lib.hid (X4_0.out.keep k1)
  have XL_1 := Lib.hid (XL_0.out.keep k1)
  have XU_1 := Lib.hid (XU_0.out.keep k1)
  have KW_1 := Lib.hid (KW_0.out.trans k1)
  clear k1 BX_0 X1_0 X2_0 X3_0 X4_0 XL_0 XU_0 KW_0
  obtain ⟨BX_c0, BX_c1, BX_c2, BX_c3, BX_c4, BX_c5, -, -, -, -, -, -⟩ := BX_1.out.c6
  go_wp2_with fail
  refine Calls.mono (V2.out _ X3_1.out X4_1.out) ?_
  rintro e w2 ⟨rfl, k2⟩
  clear BX_c0 BX_c1 BX_c2 BX_c3 BX_c4 BX_c5
  have BX_2 := Lib.hid (BX_1.out.keep k2)
  have X1_2 := Lib.hid (X1_1.out.keep k2)
  have X2_2 := Lib.hid (X2_1.out.keep k2)
  have X3_2 := Lib.hid (X3_1.out.keep k2)
  have X4_2 := Lib.hid (X4_1.out.keep k2)
  have XL_2 := Lib.hid (XL_1.out.keep k2)
  have XU_2 := Lib.hid (XU_1.out.keep k2)
  have KW_2 := Lib.hid (KW_1.out.trans k2)
  clear k2 BX_1 X1_1 X2_1 X3_1 X4_1 XL_1 XU_1 KW_1
  obtain ⟨BX_c0, BX_c1, BX_c2, BX_c3, BX_c4, BX_c5, -, -, -, -, -, -⟩ := BX_2.out.c6
  go_wp2_with fail
  refine Calls.mono (C1.out _ XL_2.out XU_2.out) ?_
  rintro e w3 ⟨rfl, k3⟩
  clear BX_c0 BX_c1 BX_c2 BX_c3 BX_c4 BX_c5
  have BX_3 := Lib.hid (BX_2.out.keep k3)
  have X1_3 := Lib.hid (X1_2.out.keep k3)
  have X2_3 := Lib.hid (X2_2.out.keep k3)
  have X3_3 := Lib.hid (X3_2.out.keep k3)
  have X4_3 := Lib.hid (X4_2.out.keep k3)
  have XL_3 := Lib.hid (XL_2.out.keep k3)
  have XU_3 := Lib.hid (XU_2.out.keep k3)
  have KW_3 := Lib.hid (KW_2.out.trans k3)
  clear k3 BX_2 X1_2 X2_2 X3_2 X4_2 XL_2 XU_2 KW_2
  obtain ⟨BX_c0, BX_c1, BX_c2, BX_c3, BX_c4, BX_c5, -, -, -, -, -, -⟩ := BX_3.out.c6
  go_wp2_with fail
  go_ret
  exact ⟨rfl, KW_3.out⟩
theorem rivalid_c {w : World} {k : Nat} {xlb : Bool} {xla xlh : Option Addr} {xln xlc xlm xlg : Nat} {xub : Bool} {xua xuh : Option Addr} {xun xuc xum xug : Nat} {xl1 xl2 xu1 xu2 : List Nat} (hx1 : Rd w xla xln xlc xl1) (hx2 : Rd w xlh xlm xlg xl2) (hx3 : Rd w xua xun xuc xu1) (hx4 : Rd w xuh xum xug xu2) (jx1 : xl1.length ≤ k) (jx2 : xl2.length ≤ k) (jx3 : xu1.length ≤ k) (jx4 : xu2.length ≤ k) (hk : k ≤ 40) (hk1 : 1 ≤ k) : Calls Tryd.prog 22 #[.agg #[.bool xlb, .slice xla xln xlc, .slice xlh xlm xlg, .bool xub, .slice xua xun xuc, .slice xuh xum xug]] w (BPost (validI xlb xl1 xl2 xub xu1 xu2) w) := by
  unfold validI
  by_cases e1 : okQ xlb xl1 xl2 = true
  · by_cases e2 : okQ xub xu1 xu2 = true
    · rw [e1, e2]; exact rivalid_t hx1 hx2 hx3 hx4 jx1 jx2 jx3 jx4 hk hk1 e1 e2
    · rw [Bool.not_eq_true] at e2; rw [e1, e2]; exact rivalid_g hx1 hx2 hx3 hx4 jx1 jx2 jx3 jx4 hk hk1 e1 e2
  · rw [Bool.not_eq_true] at e1; rw [e1]; exact rivalid_f hx1 hx2 hx3 hx4 jx1 jx2 jx3 jx4 hk hk1 e1
theorem short_f {w : World} {xb : Bool} {xa xh : Option Addr} {xn xc xm xg : Nat} (h1 : ¬ xn ≤ 2) : Calls Tryd.prog 17 #[.agg #[.bool xb, .slice xa xn xc, .slice xh xm xg]] w (BPost false w) := by
  have KW_0 := Lib.hid ((Keep.refl w).alloc (.cells #[.bool xb, .slice xa xn xc, .slice xh xm xg] 32))
  have BX_0 := Lib.hid (Bx.new w 32 (l := [.bool xb, .slice xa xn xc, .slice xh xm xg]) (.b _ (.s _ _ _ (.s _ _ _ .nil))))
  have d1 : decide ((xn : Int) ≤ 2) = false := decide_eq_false (by omega)
  go_enter Tryd.func17, Tryd.ntmps17
  obtain ⟨b0, b1, b2, -, -, -⟩ := BX_0.out.c3
  go_wp2_with fail
  go_ret
  exact ⟨rfl, KW_0.out⟩
theorem short_g {w : World} {xb : Bool} {xa xh : Option Addr} {xn xc xm xg : Nat} (h1 : xn ≤ 2) : Calls Tryd.prog 17 #[.agg #[.bool xb, .slice xa xn xc, .slice xh xm xg]] w (BPost (decide (xm ≤ 2)) w) := by
  have KW_0 := Lib.hid ((Keep.refl w).alloc (.cells #[.bool xb, .slice xa xn xc, .slice xh xm xg] 32))
  have BX_0 := Lib.hid (Bx.new w 32 (l := [.bool xb, .slice xa xn xc, .slice xh xm xg]) (.b _ (.s _ _ _ (.s _ _ _ .nil))))
  have d1 : decide ((xn : Int) ≤ 2) = true := decide_eq_true (by omega)
  obtain ⟨z, hz⟩ : ∃ z, decide (xm ≤ 2) = z := ⟨_, rfl⟩
  have d2 : decide ((xm : Int) ≤ 2) = z := by rw [← hz]; exact decide_eq_decide.2 (by omega)
  rw [hz]
  clear hz
  go_enter Tryd.func17, Tryd.ntmps17
  obtain ⟨b0, b1, b2, -, -, -⟩ := BX_0.out.c3
  go_wp2_with fail
  go_ret
  exact ⟨rfl, KW_0.out⟩
theorem short_c {w : World} {xb : Bool} {xa xh : Option Addr} {xn xc xm xg : Nat} : Calls Tryd.prog 17 #[.agg #[.bool xb, .slice xa xn xc, .slice xh xm xg]] w (BPost (decide (xn ≤ 2 ∧ xm ≤ 2)) w) := by
  by_cases h : xn ≤ 2
  · rw [show decide (xn ≤ 2 ∧ xm ≤ 2) = decide (xm ≤ 2) from decide_eq_decide.2 ⟨fun h' => h'.2, fun h' => ⟨h, h'⟩⟩]
    exact short_g h
  · rw [show decide (xn ≤ 2 ∧ xm ≤ 2) = false from decide_eq_false fun h' => h h'.1]
    exact short_f h
set_option maxHeartbeats 800000 in
theorem small_f {w : World} {xlb : Bool} {xla xlh : Option Addr} {xln xlc xlm xlg : Nat} {xub : Bool} {xua xuh : Option Addr} {xun xuc xum xug : Nat} {xl1 xl2 xu1 xu2 : List Nat} (hx1 : Rd w xla xln xlc xl1) (hx2 : Rd w xlh xlm xlg xl2) (hx3 : Rd w xua xun xuc xu1) (hx4 : Rd w xuh xum xug xu2) (e1 : decide (xln ≤ 2 ∧ xlm ≤ 2) = false) : Calls Tryd.prog 25 #[.agg #[.bool xlb, .slice xla xln xlc, .slice xlh xlm xlg, .bool xub, .slice xua xun xuc, .slice xuh xum xug]] w (BPost (false) w) := by
  have KW_0 := Lib.hid (show Keep w (w.alloc (.cells #[.bool xlb, .slice xla xln xlc, .slice xlh xlm xlg, .bool xub, .slice xua xun xuc, .slice xuh xum xug] 35)) from (Keep.alloc (Keep.refl _) _))
  have BX_0 := Lib.hid (show Bx (w.heap.size) [.bool xlb, .slice xla xln xlc, .slice xlh xlm xlg, .bool xub, .slice xua xun xuc, .slice xuh xum xug] (w.alloc (.cells #[.bool xlb, .slice xla xln xlc, .slice xlh xlm xlg, .bool xub, .slice xua xun xuc, .slice xuh xum xug] 35)) from ((Bx.new w 35 (.b _ (.s _ _ _ (.s _ _ _ (.b _ (.s _ _ _ (.s _ _ _ .nil))))))).at (g' := w.heap.size) (by simp)).keep (Keep.refl _))
  have X1_0 := Lib.hid (hx1.below KW_0.out)
  have X2_0 := Lib.hid (hx2.below KW_0.out)
  have X3_0 := Lib.hid (hx3.below KW_0.out)
  have X4_0 := Lib.hid (hx4.below KW_0.out)
  have S1 := Lib.hid (fun w1 => short_c (w := w1) (xb := xlb) (xa := xla) (xn := xln) (xc := xlc) (xh := xlh) (xm := xlm) (xg := xlg))
  rw [e1] at S1
  clear hx1 hx2 hx3 hx4 e1
  go_enter Tryd.func25, Tryd.ntmps25
  obtain ⟨BX_c0, BX_c1, BX_c2, BX_c3, BX_c4, BX_c5, -, -, -, -, -, -⟩ := BX_0.out.c6
  go_wp2_with fail
  refine Calls.mono (S1.out _) ?_
  rintro e w1 ⟨rfl, k1⟩
  clear BX_c0 BX_c1 BX_c2 BX_c3 BX_c4 BX_c5
  have BX_1 := Lib.hid (BX_0.out.keep k1)
  have X1_1 := Lib.hid (X1_0.out.keep k1)
  have X2_1 := Lib.hid (X2_0.out.keep k1)
  have X3_1 := Lib.hid (X3_0.out.keep k1)
  have X4_1 := Lib.hid (X4_0.out.keep k1)
  have KW_1 := Lib.hid (KW_0.out.trans k1)
  clear k1 BX_0 X1_0 X2_0 X3_0 X4_0 KW_0
  obtain ⟨BX_c0, BX_c1, BX_c2, BX_c3, BX_c4, BX_c5, -, -, -, -, -, -⟩ := BX_1.out.c6
  go_wp2_with fail
  go_ret
  exact ⟨rfl, KW_1.out⟩
set_option maxHeartbeats 800000 in
theorem small_g {w : World} {xlb : Bool} {xla xlh : Option Addr} {xln xlc xlm xlg : Nat} {xub : Bool} {xua xuh : Option Addr} {xun xuc xum xug : Nat} {xl1 xl2 xu1 xu2 : List Nat} (hx1 : Rd w xla xln xlc xl1) (hx2 : Rd w xlh xlm xlg xl2) (hx3 : Rd w xua xun xuc xu1) (hx4 : Rd w xuh xum xug xu2) (e1 : decide (xln ≤ 2 ∧ xlm ≤ 2) = true) (e2 : decide (xun ≤ 2 ∧ xum ≤ 2) = false) : Calls Tryd.prog 25 #[.agg #[.bool xlb, .slice xla xln xlc, .slice xlh xlm xlg, .bool xub, .slice xua xun xuc, .slice xuh xum xug]] w (BPost (false) w) := by
  have KW_0 := Lib.hid (show Keep w (w.alloc (.cells #[.bool xlb, .slice xla xln xlc, .slice xlh xlm xlg, .bool xub, .slice xua xun xuc, .slice xuh xum xug] 35)) from (Keep.alloc (Keep.refl _) _))
  have BX_0 := Lib.hid (show Bx (w.heap.size) [.bool xlb, .slice xla xln xlc, .slice xlh xlm xlg, .bool xub, .slice xua xun xuc, .slice xuh xum xug] (w.alloc (.cells #[.bool xlb, .slice xla xln xlc, .slice xlh xlm xlg, .bool xub, .slice xua xun xuc, .slice xuh xum xug] 35)) from ((Bx.new w 35 (.b _ (.s _ _ _ (.s _ _ _ (.b _ (.s _ _ _ (.s _ _ _ .nil))))))).at (g' := w.heap.size) (by simp)).keep (Keep.refl _))
  have X1_0 := Lib.hid (hx1.below KW_0.out)
  have X2_0 := Lib.hid (hx2.below KW_0.out)
  have X3_0 := Lib.hid (hx3.below KW_0.out)
  have X4_0 := Lib.hid (hx4.below KW_0.out)
  have S1 := Lib.hid (fun w1 => short_c (w := w1) (xb := xlb) (xa := xla) (xn := xln) (xc := xlc) (xh := xlh) (xm := xlm) (xg := xlg))
  rw [e1] at S1
  have S2 := Lib.hid (fun w1 => short_c (w := w1) (xb := xub) (xa := xua) (xn := xun) (xc := xuc) (xh := xuh) (xm := xum) (xg := xug))
  rw [e2] at S2
  clear hx1 hx2 hx3 hx4 e1 e2
  go_enter Tryd.func25, Tryd.ntmps25
  obtain ⟨BX_c0, BX_c1, BX_c2, BX_c3, BX_c4, BX_c5, -, -, -, -, -, -⟩ := BX_0.out.c6
  go_wp2_with fail
  refine Calls.mono (S1.out _) ?_
  rintro e w1 ⟨rfl, k1⟩
  clear BX_c0 BX_c1 BX_c2 BX_c3 BX_c4 BX_c5
  have BX_1 := Lib.hid (BX_0.out.keep k1)
  have X1_1 := Lib.hid (X1_0.out.keep k1)
  have X2_1 := Lib.hid (X2_0.out.keep k1)
  have X3_1 := Lib.hid (X3_0.out.keep k1)
  have X4_1 := Lib.hid (X4_0.out.keep k1)
  have KW_1 := Lib.hid (KW_0.out.trans k1)
  clear k1 BX_0 X1_0 X2_0 X3_0 X4_0 KW_0
  obtain ⟨BX_c0, BX_c1, BX_c2, BX_c3, BX_c4, BX_c5, -, -, -, -, -, -⟩ := BX_1.out.c6
  go_wp2_with fail
  refine Calls.mono (S2.out _) ?_
  rintro e w2 ⟨rfl, k2⟩
  clear BX_c0 BX_c1 BX_c2 BX_c3 BX_c4 BX_c5
  have BX_2 := Lib.hid (BX_1.out.keep k2)
  have X1_2 := Lib.hid (X1_1.out.keep k2)
  have X2_2 := Lib.hid (X2_1.out.keep k2)
  have X3_2 := Lib.hid (X3_1.out.keep k2)
  have X4_2 := Lib.hid (X4_1.out.keep k2)
  have KW_2 := Lib.hid (KW_1.out.trans k2)
  clear k2 BX_1 X1_1 X2_1 X3_1 X4_1 KW_1
  obtain ⟨BX_c0, BX_c1, BX_c2, BX_c3, BX_c4, BX_c5, -, -, -, -, -, -⟩ := BX_2.out.c6
  go_wp2_with fail
  go_ret
  exact ⟨rfl, KW_2.out⟩
set_option maxHeartbeats 800000 in
theorem small_t {w : World} {xlb : Bool} {xla xlh : Option Addr} {xln xlc xlm xlg : Nat} {xub : Bool} {xua xuh : Option Addr} {xun xuc xum xug : Nat} {xl1 xl2 xu1 xu2 : List Nat} (hx1 : Rd w xla xln xlc xl1) (hx2 : Rd w xlh xlm xlg xl2) (hx3 : Rd w xua xun xuc xu1) (hx4 : Rd w xuh xum xug xu2) (e1 : decide (xln ≤ 2 ∧ xlm ≤ 2) = true) (e2 : decide (xun ≤ 2 ∧ xum ≤ 2) = true) (jx1 : xl1.length ≤ 2) (jx2 : xl2.length ≤ 2) (jx3 : xu1.length ≤ 2) (jx4 : xu2.length ≤ 2) : Calls Tryd.prog 25 #[.agg #[.bool xlb, .slice xla xln xlc, .slice xlh xlm xlg, .bool xub, .slice xua xun xuc, .slice xuh xum xug]] w (BPost (validI xlb xl1 xl2 xub xu1 xu2) w) := by
  have KW_0 := Lib.hid (show Keep w (w.alloc (.cells #[.bool xlb, .slice xla xln xlc, .slice xlh xlm xlg, .bool xub, .slice xua xun xuc, .slice xuh xum xug] 35)) from (Keep.alloc (Keep.refl _) _))
  have BX_0 := Lib.hid (show Bx (w.heap.size) [.bool xlb, .slice xla xln xlc, .slice xlh xlm xlg, .bool xub, .slice xua xun xuc, .slice xuh xum xug] (w.alloc (.cells #[.bool xlb, .slice xla xln xlc, .slice xlh xlm xlg, .bool xub, .slice xua xun xuc, .slice xuh xum xug] 35)) from ((Bx.new w 35 (.b _ (.s _ _ _ (.s _ _ _ (.b _ (.s _ _ _ (.s _ _ _ .nil))))))).at (g' := w.heap.size) (by simp)).keep (Keep.refl _))
  have X1_0 := Lib.hid (hx1.below KW_0.out)
  have X2_0 := Lib.hid (hx2.below KW_0.out)
  have X3_0 := Lib.hid (hx3.below KW_0.out)
  have X4_0 := Lib.hid (hx4.below KW_0.out)
  have S1 := Lib.hid (fun w1 => short_c (w := w1) (xb := xlb) (xa := xla) (xn := xln) (xc := xlc) (xh := xlh) (xm := xlm) (xg := xlg))
  rw [e1] at S1
  have S2 := Lib.hid (fun w1 => short_c (w := w1) (xb := xub) (xa := xua) (xn := xun) (xc := xuc) (xh := xuh) (xm := xum) (xg := xug))
  rw [e2] at S2
  have VA := Lib.hid (fun w1 (h1 : Rd w1 xla xln xlc xl1) (h2 : Rd w1 xlh xlm xlg xl2) (h3 : Rd w1 xua xun xuc xu1) (h4 : Rd w1 xuh xum xug xu2) => rivalid_c (xlb := xlb) (xub := xub) h1 h2 h3 h4 jx1 jx2 jx3 jx4 (by omega) (by omega))
  obtain ⟨z, hz⟩ : ∃ z, validI xlb xl1 xl2 xub xu1 xu2 = z := ⟨_, rfl⟩
  rw [hz] at VA ⊢
  clear hz jx1 jx2 jx3 jx4
  clear hx1 hx2 hx3 hx4 e1 e2
  go_enter Tryd.func25, Tryd.ntmps25
  obtain ⟨BX_c0, BX_c1, BX_c2, BX_c3, BX_c4, BX_c5, -, -, -, -, -, -⟩ := BX_0.out.c6
  go_wp2_with fail
  refine Calls.mono (S1.out _) ?_
  rintro e w1 ⟨rfl, k1⟩
  clear BX_c0 BX_c1 BX_c2 BX_c3 BX_c4 BX_c5
  have BX_1 := Lib.hid (BX_0.out.keep k1)
  have X1_1 := Lib.hid (X1_0.out.keep k1)
  have X2_1 := Lib.hid (X2_0.out.keep k1)
  have X3_1 := Lib.hid (X3_0.out.keep k1)
  have X4_1 := Lib.hid (X4_0.out.keep k1)
  have KW_1 := Lib.hid (KW_0.out.trans k1)
  clear k1 BX_0 X1_0 X2_0 X3_0 X4_0 KW_0
  obtain ⟨BX_c0, BX_c1, BX_c2, BX_c3, BX_c4, BX_c5, -, -, -, -, -, -⟩ := BX_1.out.c6
  go_wp2_with fail
  refine Calls.mono (S2.out _) ?_
  rintro e w2 ⟨rfl, k2⟩
  clear BX_c0 BX_c1 BX_c2 BX_c3 BX_c4 BX_c5
  have BX_2 := Lib.hid (BX_1.out.keep k2)
  have X1_2 := Lib.hid (X1_1.out.keep k2)
  have X2_2 := Lib.hid (X2_1.out.keep k2)
  have X3_2 := Lib.hid (X3_1.out.keep k2)
  have X4_2 := Lib.hid (X4_1.out.keep k2)
  have KW_2 := Lib.hid (KW_1.out.trans k2)
  clear k2 BX_1 X1_1 X2_1 X3_1 X4_1 KW_1
  obtain ⟨BX_c0, BX_c1, BX_c2, BX_c3, BX_c4, BX_c5, -, -, -, -, -, -⟩ := BX_2.out.c6
  go_wp2_with fail
  refine Calls.mono (VA.out _ X1_2.out X2_2.out X3_2.out X4_2.out) ?_
  rintro e w3 ⟨rfl, k3⟩
  clear BX_c0 BX_c1 BX_c2 BX_c3 BX_c4 BX_c5
  have BX_3 := Lib.hid (BX_2.out.keep k3)
  have X1_3 := Lib.hid (X1_2.out.keep k3)
  have X2_3 := Lib.hid (X2_2.out.keep k3)
  have X3_3 := Lib.hid (X3_2.out.keep k3)
  have X4_3 := Lib.hid (X4_2.out.keep k3)
  have KW_3 := Lib.hid (KW_2.out.trans k3)
  clear k3 BX_2 X1_2 X2_2 X3_2 X4_2 KW_2
  obtain ⟨BX_c0, BX_c1, BX_c2, BX_c3, BX_c4, BX_c5, -, -, -, -, -, -⟩ := BX_3.out.c6
  go_wp2_with fail
  go_ret
  exact ⟨rfl, KW_3.out⟩
theorem small_c {w : World} {xlb : Bool} {xla xlh : Option Addr} {xln xlc xlm xlg : Nat} {xub : Bool} {xua xuh : Option Addr} {xun xuc xum xug : Nat} {xl1 xl2 xu1 xu2 : List Nat} (hx1 : Rd w xla xln xlc xl1) (hx2 : Rd w xlh xlm xlg xl2) (hx3 : Rd w xua xun xuc xu1) (hx4 : Rd w xuh xum xug xu2) : Calls Tryd.prog 25 #[.agg #[.bool xlb, .slice xla xln xlc, .slice xlh xlm xlg, .bool xub, .slice xua xun xuc, .slice xuh xum xug]] w (BPost (smallB xlb xl1 xl2 xub xu1 xu2) w) := by
  unfold smallB
  rw [hx1.len_eq, hx2.len_eq, hx3.len_eq, hx4.len_eq]
  by_cases e1 : decide (xln ≤ 2 ∧ xlm ≤ 2) = true
  · by_cases e2 : decide (xun ≤ 2 ∧ xum ≤ 2) = true
    · rw [e1, e2]
      have f1 := of_decide_eq_true e1
      have f2 := of_decide_eq_true e2
      exact small_t hx1 hx2 hx3 hx4 e1 e2 (by rw [hx1.len_eq]; exact f1.1) (by rw [hx2.len_eq]; exact f1.2) (by rw [hx3.len_eq]; exact f2.1) (by rw [hx4.len_eq]; exact f2.2)
    · rw [Bool.not_eq_true] at e2; rw [e1, e2]; exact small_g hx1 hx2 hx3 hx4 e1 e2
  · rw [Bool.not_eq_true] at e1; rw [e1]; exact small_f hx1 hx2 hx3 hx4 e1
end Go.Proofs.YtbcakefhknjbeaaDoor
