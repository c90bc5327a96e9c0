/- Walks of layer 6: the law of Make. -/
import Derived.Test.YtbcakefhknjbeaaDoorJA
import Derived.RegionTactic
namespace Go.Proofs.YtbcakefhknjbeaaDoor
open Go.RowKit
set_option linter.unusedVariables false
theorem ivalid_ok {w : World} {v : Value} {p q : Rat} {k : Nat} (h : ICr w v p q) (hp : Rb p k) (hq : Rb q k) (hk : k ≤ 40) (hk1 : 1 ≤ k) (hT : Tab w) (hle : p ≤ q) : Calls Tryd.prog 21 #[v] w (BPost true w) := by
  obtain ⟨b, a, n, c, a', n', c', d, e, m, i, e', m', i', rfl, h1, h2⟩ := h
  obtain ⟨f1, r1, r2⟩ := h1.rds
  obtain ⟨f2, r3, r4⟩ := h2.rds
  have H := ivalid_c (xlb := b) (xub := d) r1 r2 r3 r4 (dig_len_of hp.1) (dig_len_of hp.wd) (dig_len_of hq.1) (dig_len_of hq.wd) hk hk1 hT
  have e1 : rv b (nv (dig p.num.natAbs)) (nv (dig (wd p))) = p := by rw [nv_dig, nv_dig, ← f1, rv_wd]
  have e2 : rv d (nv (dig q.num.natAbs)) (nv (dig (wd q))) = q := by rw [nv_dig, nv_dig, ← f2, rv_wd]
  have hv : validI b (dig p.num.natAbs) (dig (wd p)) d (dig q.num.natAbs) (dig (wd q)) = true := by
    unfold validI
    rw [e1, e2, Bool.and_eq_true, Bool.and_eq_true, okQ_iff, okQ_iff, e1, e2]
    exact ⟨⟨⟨⟨f1.symm, rfl⟩, rfl⟩, ⟨⟨f2.symm, rfl⟩, rfl⟩⟩, decide_eq_true hle⟩
  rw [hv] at H
  exact H
set_option maxHeartbeats 4000000 in
theorem make_law_b0 {w : World} {xb : Bool} {xa xh : Option Addr} {xn xc xm xg : Nat} {x1 x2 : List Nat} (hx1 : Rd w xa xn xc x1) (hx2 : Rd w xh xm xg x2) {yb : Bool} {ya yh : Option Addr} {yn yc ym yg : Nat} {y1 y2 : List Nat} (hy1 : Rd w ya yn yc y1) (hy2 : Rd w yh ym yg y2) {zb : Bool} {za zh : Option Addr} {zn zc zm zg : Nat} {z1 z2 : List Nat} (hz1 : Rd w za zn zc z1) (hz2 : Rd w zh zm zg z2) (hT : Tab w) (ex : decide (xn ≤ 2 ∧ xm ≤ 2) = false) : Calls Tryd.prog 4 #[.agg #[.bool xb, .slice xa xn xc, .slice xh xm xg], .agg #[.bool yb, .slice ya yn yc, .slice yh ym yg], .agg #[.bool zb, .slice za zn zc, .slice zh zm zg]] w (BPost true w) := by
  have KW_0 := Lib.hid (show Keep w (((w.alloc (.cells #[.bool xb, .slice xa xn xc, .slice xh xm xg] 32)).alloc (.cells #[.bool yb, .slice ya yn yc, .slice yh ym yg] 32)).alloc (.cells #[.bool zb, .slice za zn zc, .slice zh zm zg] 32)) from (Keep.alloc (Keep.alloc (Keep.alloc (Keep.refl _) _) _) _))
  have BX_0 := Lib.hid (show Bx (w.heap.size) [.bool xb, .slice xa xn xc, .slice xh xm xg] (((w.alloc (.cells #[.bool xb, .slice xa xn xc, .slice xh xm xg] 32)).alloc (.cells #[.bool yb, .slice ya yn yc, .slice yh ym yg] 32)).alloc (.cells #[.bool zb, .slice za zn zc, .slice zh zm zg] 32)) from ((Bx.new w 32 (.b _ (.s _ _ _ (.s _ _ _ .nil)))).at (g' := w.heap.size) (by simp)).keep (Keep.alloc (Keep.alloc (Keep.refl _) _) _))
  have BY_0 := Lib.hid (show Bx (w.heap.size + 1) [.bool yb, .slice ya yn yc, .slice yh ym yg] (((w.alloc (.cells #[.bool xb, .slice xa xn xc, .slice xh xm xg] 32)).alloc (.cells #[.bool yb, .slice ya yn yc, .slice yh ym yg] 32)).alloc (.cells #[.bool zb, .slice za zn zc, .slice zh zm zg] 32)) from ((Bx.new (w.alloc (.cells #[.bool xb, .slice xa xn xc, .slice xh xm xg] 32)) 32 (.b _ (.s _ _ _ (.s _ _ _ .nil)))).at (g' := w.heap.size + 1) (by simp)).keep (Keep.alloc (Keep.refl _) _))
  have BZ_0 := Lib.hid (show Bx (w.heap.size + 1 + 1) [.bool zb, .slice za zn zc, .slice zh zm zg] (((w.alloc (.cells #[.bool xb, .slice xa xn xc, .slice xh xm xg] 32)).alloc (.cells #[.bool yb, .slice ya yn yc, .slice yh ym yg] 32)).alloc (.cells #[.bool zb, .slice za zn zc, .slice zh zm zg] 32)) from ((Bx.new ((w.alloc (.cells #[.bool xb, .slice xa xn xc, .slice xh xm xg] 32)).alloc (.cells #[.bool yb, .slice ya yn yc, .slice yh ym yg] 32)) 32 (.b _ (.s _ _ _ (.s _ _ _ .nil)))).at (g' := w.heap.size + 1 + 1) (by simp)).keep (Keep.refl _))
  have T_0 := Lib.hid (hT.keep KW_0.out)
  have AW := Lib.hid (fun w1 (hT1 : Tab w1) => awake6_c w1 hT1)
  have Sx := Lib.hid (fun w1 => short_c (w := w1) (xb := xb) (xa := xa) (xn := xn) (xc := xc) (xh := xh) (xm := xm) (xg := xg))
  rw [ex] at Sx
  clear hT hx1 hx2 hy1 hy2 hz1 hz2 ex
  go_enter Tryd.func4, Tryd.ntmps4
  obtain ⟨BX_c0, BX_c1, BX_c2, -, -, -⟩ := BX_0.out.c3
  obtain ⟨BY_c0, BY_c1, BY_c2, -, -, -⟩ := BY_0.out.c3
  obtain ⟨BZ_c0, BZ_c1, BZ_c2, -, -, -⟩ := BZ_0.out.c3
  go_wp2_with fail
  refine Calls.mono (AW.out _ T_0.out) ?_
  rintro e w1 ⟨rfl, k1⟩
  clear BX_c0 BX_c1 BX_c2 BY_c0 BY_c1 BY_c2 BZ_c0 BZ_c1 BZ_c2
  have BX_1 := Lib.hid (BX_0.out.keep k1)
  have BY_1 := Lib.hid (BY_0.out.keep k1)
  have BZ_1 := Lib.hid (BZ_0.out.keep k1)
  have T_1 := Lib.hid (T_0.out.keep k1)
  have KW_1 := Lib.hid (KW_0.out.trans k1)
  clear k1 BX_0 BY_0 BZ_0 T_0 KW_0
  obtain ⟨BX_c0, BX_c1, BX_c2, -, -, -⟩ := BX_1.out.c3
  obtain ⟨BY_c0, BY_c1, BY_c2, -, -, -⟩ := BY_1.out.c3
  obtain ⟨BZ_c0, BZ_c1, BZ_c2, -, -, -⟩ := BZ_1.out.c3
  go_wp2_with fail
  refine Calls.mono (Sx.out _) ?_
  rintro e w2 ⟨rfl, k2⟩
  clear BX_c0 BX_c1 BX_c2 BY_c0 BY_c1 BY_c2 BZ_c0 BZ_c1 BZ_c2
  have BX_2 := Lib.hid (BX_1.out.keep k2)
  have BY_2 := Lib.hid (BY_1.out.keep k2)
  have BZ_2 := Lib.hid (BZ_1.out.keep k2)
  have T_2 := Lib.hid (T_1.out.keep k2)
  have KW_2 := Lib.hid (KW_1.out.trans k2)
  clear k2 BX_1 BY_1 BZ_1 T_1 KW_1
  obtain ⟨BX_c0, BX_c1, BX_c2, -, -, -⟩ := BX_2.out.c3
  obtain ⟨BY_c0, BY_c1, BY_c2, -, -, -⟩ := BY_2.out.c3
  obtain ⟨BZ_c0, BZ_c1, BZ_c2, -, -, -⟩ := BZ_2.out.c3
  go_wp2_with fail
  go_ret
  exact ⟨rfl, KW_2.out⟩
set_option maxHeartbeats 4000000 in
theorem make_law_b1 {w : World} {xb : Bool} {xa xh : Option Addr} {xn xc xm xg : Nat} {x1 x2 : List Nat} (hx1 : Rd w xa xn xc x1) (hx2 : Rd w xh xm xg x2) {yb : Bool} {ya yh : Option Addr} {yn yc ym yg : Nat} {y1 y2 : List Nat} (hy1 : Rd w ya yn yc y1) (hy2 : Rd w yh ym yg y2) {zb : Bool} {za zh : Option Addr} {zn zc zm zg : Nat} {z1 z2 : List Nat} (hz1 : Rd w za zn zc z1) (hz2 : Rd w zh zm zg z2) (hT : Tab w) (ex : decide (xn ≤ 2 ∧ xm ≤ 2) = true) (ey : decide (yn ≤ 2 ∧ ym ≤ 2) = false) : Calls Tryd.prog 4 #[.agg #[.bool xb, .slice xa xn xc, .slice xh xm xg], .agg #[.bool yb, .slice ya yn yc, .slice yh ym yg], .agg #[.bool zb, .slice za zn zc, .slice zh zm zg]] w (BPost true w) := by
  have KW_0 := Lib.hid (show Keep w (((w.alloc (.cells #[.bool xb, .slice xa xn xc, .slice xh xm xg] 32)).alloc (.cells #[.bool yb, .slice ya yn yc, .slice yh ym yg] 32)).alloc (.cells #[.bool zb, .slice za zn zc, .slice zh zm zg] 32)) from (Keep.alloc (Keep.alloc (Keep.alloc (Keep.refl _) _) _) _))
  have BX_0 := Lib.hid (show Bx (w.heap.size) [.bool xb, .slice xa xn xc, .slice xh xm xg] (((w.alloc (.cells #[.bool xb, .slice xa xn xc, .slice xh xm xg] 32)).alloc (.cells #[.bool yb, .slice ya yn yc, .slice yh ym yg] 32)).alloc (.cells #[.bool zb, .slice za zn zc, .slice zh zm zg] 32)) from ((Bx.new w 32 (.b _ (.s _ _ _ (.s _ _ _ .nil)))).at (g' := w.heap.size) (by simp)).keep (Keep.alloc (Keep.alloc (Keep.refl _) _) _))
  have BY_0 := Lib.hid (show Bx (w.heap.size + 1) [.bool yb, .slice ya yn yc, .slice yh ym yg] (((w.alloc (.cells #[.bool xb, .slice xa xn xc, .slice xh xm xg] 32)).alloc (.cells #[.bool yb, .slice ya yn yc, .slice yh ym yg] 32)).alloc (.cells #[.bool zb, .slice za zn zc, .slice zh zm zg] 32)) from ((Bx.new (w.alloc (.cells #[.bool xb, .slice xa xn xc, .slice xh xm xg] 32)) 32 (.b _ (.s _ _ _ (.s _ _ _ .nil)))).at (g' := w.heap.size + 1) (by simp)).keep (Keep.alloc (Keep.refl _) _))
  have BZ_0 := Lib.hid (show Bx (w.heap.size + 1 + 1) [.bool zb, .slice za zn zc, .slice zh zm zg] (((w.alloc (.cells #[.bool xb, .slice xa xn xc, .slice xh xm xg] 32)).alloc (.cells #[.bool yb, .slice ya yn yc, .slice yh ym yg] 32)).alloc (.cells #[.bool zb, .slice za zn zc, .slice zh zm zg] 32)) from ((Bx.new ((w.alloc (.cells #[.bool xb, .slice xa xn xc, .slice xh xm xg] 32)).alloc (.cells #[.bool yb, .slice ya yn yc, .slice yh ym yg] 32)) 32 (.b _ (.s _ _ _ (.s _ _ _ .nil)))).at (g' := w.heap.size + 1 + 1) (by simp)).keep (Keep.refl _))
  have T_0 := Lib.hid (hT.keep KW_0.out)
  have AW := Lib.hid (fun w1 (hT1 : Tab w1) => awake6_c w1 hT1)
  have Sx := Lib.hid (fun w1 => short_c (w := w1) (xb := xb) (xa := xa) (xn := xn) (xc := xc) (xh := xh) (xm := xm) (xg := xg))
  rw [ex] at Sx
  have Sy := Lib.hid (fun w1 => short_c (w := w1) (xb := yb) (xa := ya) (xn := yn) (xc := yc) (xh := yh) (xm := ym) (xg := yg))
  rw [ey] at Sy
  clear hT hx1 hx2 hy1 hy2 hz1 hz2 ex ey
  go_enter Tryd.func4, Tryd.ntmps4
  obtain ⟨BX_c0, BX_c1, BX_c2, -, -, -⟩ := BX_0.out.c3
  obtain ⟨BY_c0, BY_c1, BY_c2, -, -, -⟩ := BY_0.out.c3
  obtain ⟨BZ_c0, BZ_c1, BZ_c2, -, -, -⟩ := BZ_0.out.c3
  go_wp2_with fail
  refine Calls.mono (AW.out _ T_0.out) ?_
  rintro e w1 ⟨rfl, k1⟩
  clear BX_c0 BX_c1 BX_c2 BY_c0 BY_c1 BY_c2 BZ_c0 BZ_c1 BZ_c2
  have BX_1 := Lib.hid (BX_0.out.keep k1)
  have BY_1 := Lib.hid (BY_0.out.keep k1)
  have BZ_1 := Lib.hid (BZ_0.out.keep k1)
  have T_1 := Lib.hid (T_0.out.keep k1)
  have KW_1 := Lib.hid (KW_0.out.trans k1)
  clear k1 BX_0 BY_0 BZ_0 T_0 KW_0
  obtain ⟨BX_c0, BX_c1, BX_c2, -, -, -⟩ := BX_1.out.c3
  obtain ⟨BY_c0, BY_c1, BY_c2, -, -, -⟩ := BY_1.out.c3
  obtain ⟨BZ_c0, BZ_c1, BZ_c2, -, -, -⟩ := BZ_1.out.c3
  go_wp2_with fail
  refine Calls.mono (Sx.out _) ?_
  rintro e w2 ⟨rfl, k2⟩
  clear BX_c0 BX_c1 BX_c2 BY_c0 BY_c1 BY_c2 BZ_c0 BZ_c1 BZ_c2
  have BX_2 := Lib.hid (BX_1.out.keep k2)
  have BY_2 := Lib.hid (BY_1.out.keep k2)
  have BZ_2 := Lib.hid (BZ_1.out.keep k2)
  have T_2 := Lib.hid (T_1.out.keep k2)
  have KW_2 := Lib.hid (KW_1.out.trans k2)
  clear k2 BX_1 BY_1 BZ_1 T_1 KW_1
  obtain ⟨BX_c0, BX_c1, BX_c2, -, -, -⟩ := BX_2.out.c3
  obtain ⟨BY_c0, BY_c1, BY_c2, -, -, -⟩ := BY_2.out.c3
  obtain ⟨BZ_c0, BZ_c1, BZ_c2, -, -, -⟩ := BZ_2.out.c3
  go_wp2_with fail
  refine Calls.mono (Sy.out _) ?_
  rintro e w3 ⟨rfl, k3⟩
  clear BX_c0 BX_c1 BX_c2 BY_c0 BY_c1 BY_c2 BZ_c0 BZ_c1 BZ_c2
  have BX_3 := Lib.hid (BX_2.out.keep k3)
  have BY_3 := Lib.hid (BY_2.out.keep k3)
  have BZ_3 := Lib.hid (BZ_2.out.keep k3)
  have T_3 := Lib.hid (T_2.out.keep k3)
  have KW_3 := Lib.hid (KW_2.out.trans k3)
  clear k3 BX_2 BY_2 BZ_2 T_2 KW_2
  obtain ⟨BX_c0, BX_c1, BX_c2, -, -, -⟩ := BX_3.out.c3
  obtain ⟨BY_c0, BY_c1, BY_c2, -, -, -⟩ := BY_3.out.c3
  obtain ⟨BZ_c0, BZ_c1, BZ_c2, -, -, -⟩ := BZ_3.out.c3
  go_wp2_with fail
  go_ret
  exact ⟨rfl, KW_3.out⟩
set_option maxHeartbeats 4000000 in
theorem make_law_b2 {w : World} {xb : Bool} {xa xh : Option Addr} {xn xc xm xg : Nat} {x1 x2 : List Nat} (hx1 : Rd w xa xn xc x1) (hx2 : Rd w xh xm xg x2) {yb : Bool} {ya yh : Option Addr} {yn yc ym yg : Nat} {y1 y2 : List Nat} (hy1 : Rd w ya yn yc y1) (hy2 : Rd w yh ym yg y2) {zb : Bool} {za zh : Option Addr} {zn zc zm zg : Nat} {z1 z2 : List Nat} (hz1 : Rd w za zn zc z1) (hz2 : Rd w zh zm zg z2) (hT : Tab w) (ex : decide (xn ≤ 2 ∧ xm ≤ 2) = true) (ey : decide (yn ≤ 2 ∧ ym ≤ 2) = true) (ez : decide (zn ≤ 2 ∧ zm ≤ 2) = false) : Calls Tryd.prog 4 #[.agg #[.bool xb, .slice xa xn xc, .slice xh xm xg], .agg #[.bool yb, .slice ya yn yc, .slice yh ym yg], .agg #[.bool zb, .slice za zn zc, .slice zh zm zg]] w (BPost true w) := by
  have KW_0 := Lib.hid (show Keep w (((w.alloc (.cells #[.bool xb, .slice xa xn xc, .slice xh xm xg] 32)).alloc (.cells #[.bool yb, .slice ya yn yc, .slice yh ym yg] 32)).alloc (.cells #[.bool zb, .slice za zn zc, .slice zh zm zg] 32)) from (Keep.alloc (Keep.alloc (Keep.alloc (Keep.refl _) _) _) _))
  have BX_0 := Lib.hid (show Bx (w.heap.size) [.bool xb, .slice xa xn xc, .slice xh xm xg] (((w.alloc (.cells #[.bool xb, .slice xa xn xc, .slice xh xm xg] 32)).alloc (.cells #[.bool yb, .slice ya yn yc, .slice yh ym yg] 32)).alloc (.cells #[.bool zb, .slice za zn zc, .slice zh zm zg] 32)) from ((Bx.new w 32 (.b _ (.s _ _ _ (.s _ _ _ .nil)))).at (g' := w.heap.size) (by simp)).keep (Keep.alloc (Keep.alloc (Keep.refl _) _) _))
  have BY_0 := Lib.hid (show Bx (w.heap.size + 1) [.bool yb, .slice ya yn yc, .slice yh ym yg] (((w.alloc (.cells #[.bool xb, .slice xa xn xc, .slice xh xm xg] 32)).alloc (.cells #[.bool yb, .slice ya yn yc, .slice yh ym yg] 32)).alloc (.cells #[.bool zb, .slice za zn zc, .slice zh zm zg] 32)) from ((Bx.new (w.alloc (.cells #[.bool xb, .slice xa xn xc, .slice xh xm xg] 32)) 32 (.b _ (.s _ _ _ (.s _ _ _ .nil)))).at (g' := w.heap.size + 1) (by simp)).keep (Keep.alloc (Keep.refl _) _))
  have BZ_0 := Lib.hid (show Bx (w.heap.size + 1 + 1) [.bool zb, .slice za zn zc, .slice zh zm zg] (((w.alloc (.cells #[.bool xb, .slice xa xn xc, .slice xh xm xg] 32)).alloc (.cells #[.bool yb, .slice ya yn yc, .slice yh ym yg] 32)).alloc (.cells #[.bool zb, .slice za zn zc, .slice zh zm zg] 32)) from ((Bx.new ((w.alloc (.cells #[.bool xb, .slice xa xn xc, .slice xh xm xg] 32)).alloc (.cells #[.bool yb, .slice ya yn yc, .slice yh ym yg] 32)) 32 (.b _ (.s _ _ _ (.s _ _ _ .nil)))).at (g' := w.heap.size + 1 + 1) (by simp)).keep (Keep.refl _))
  have T_0 := Lib.hid (hT.keep KW_0.out)
  have AW := Lib.hid (fun w1 (hT1 : Tab w1) => awake6_c w1 hT1)
  have Sx := Lib.hid (fun w1 => short_c (w := w1) (xb := xb) (xa := xa) (xn := xn) (xc := xc) (xh := xh) (xm := xm) (xg := xg))
  rw [ex] at Sx
  have Sy := Lib.hid (fun w1 => short_c (w := w1) (xb := yb) (xa := ya) (xn := yn) (xc := yc) (xh := yh) (xm := ym) (xg := yg))
  rw [ey] at Sy
  have Sz := Lib.hid (fun w1 => short_c (w := w1) (xb := zb) (xa := za) (xn := zn) (xc := zc) (xh := zh) (xm := zm) (xg := zg))
  rw [ez] at Sz
  clear hT hx1 hx2 hy1 hy2 hz1 hz2 ex ey ez
  go_enter Tryd.func4, Tryd.ntmps4
  obtain ⟨BX_c0, BX_c1, BX_c2, -, -, -⟩ := BX_0.out.c3
  obtain ⟨BY_c0, BY_c1, BY_c2, -, -, -⟩ := BY_0.out.c3
  obtain ⟨BZ_c0, BZ_c1, BZ_c2, -, -, -⟩ := BZ_0.out.c3
  go_wp2_with fail
  refine Calls.mono (AW.out _ T_0.out) ?_
  rintro e w1 ⟨rfl, k1⟩
  clear BX_c0 BX_c1 BX_c2 BY_c0 BY_c1 BY_c2 BZ_c0 BZ_c1 BZ_c2
  have BX_1 := Lib.hid (BX_0.out.keep k1)
  have BY_1 := Lib.hid (BY_0.out.keep k1)
  have BZ_1 := Lib.hid (BZ_0.out.keep k1)
  have T_1 := Lib.hid (T_0.out.keep k1)
  have KW_1 := Lib.hid (KW_0.out.trans k1)
  clear k1 BX_0 BY_0 BZ_0 T_0 KW_0
  obtain ⟨BX_c0, BX_c1, BX_c2, -, -, -⟩ := BX_1.out.c3
  obtain ⟨BY_c0, BY_c1, BY_c2, -, -, -⟩ := BY_1.out.c3
  obtain ⟨BZ_c0, BZ_c1, BZ_c2, -, -, -⟩ := BZ_1.out.c3
  go_wp2_with fail
  refine Calls.mono (Sx.out _) ?_
  rintro e w2 ⟨rfl, k2⟩
  clear BX_c0 BX_c1 BX_c2 BY_c0 BY_c1 BY_c2 BZ_c0 BZ_c1 BZ_c2
  have BX_2 := Lib.hid (BX_1.out.keep k2)
  have BY_2 := Lib.hid (BY_1.out.keep k2)
  have BZ_2 := Lib.hid (BZ_1.out.keep k2)
  have T_2 := Lib.hid (T_1.out.keep k2)
  have KW_2 := Lib.hid (KW_1.out.trans k2)
  clear k2 BX_1 BY_1 BZ_1 T_1 KW_1
  obtain ⟨BX_c0, BX_c1, BX_c2, -, -, -⟩ := BX_2.out.c3
  obtain ⟨BY_c0, BY_c1, BY_c2, -, -, -⟩ := BY_2.out.c3
  obtain ⟨BZ_c0, BZ_c1, BZ_c2, -, -, -⟩ := BZ_2.out.c3
  go_wp2_with fail
  refine Calls.mono (Sy.out _) ?_
  rintro e w3 ⟨rfl, k3⟩
  clear BX_c0 BX_c1 BX_c2 BY_c0 BY_c1 BY_c2 BZ_c0 BZ_c1 BZ_c2
  have BX_3 := Lib.hid (BX_2.out.keep k3)
  have BY_3 := Lib.hid (BY_2.out.keep k3)
  have BZ_3 := Lib.hid (BZ_2.out.keep k3)
  have T_3 := Lib.hid (T_2.out.keep k3)
  have KW_3 := Lib.hid (KW_2.out.trans k3)
  clear k3 BX_2 BY_2 BZ_2 T_2 KW_2
  obtain ⟨BX_c0, BX_c1, BX_c2, -, -, -⟩ := BX_3.out.c3
  obtain ⟨BY_c0, BY_c1, BY_c2, -, -, -⟩ := BY_3.out.c3
  obtain ⟨BZ_c0, BZ_c1, BZ_c2, -, -, -⟩ := BZ_3.out.c3
  go_wp2_with fail
  refine Calls.mono (Sz.out _) ?_
  rintro e w4 ⟨rfl, k4⟩
  clear BX_c0 BX_c1 BX_c2 BY_c0 BY_c1 BY_c2 BZ_c0 BZ_c1 BZ_c2
  have BX_4 := Lib.hid (BX_3.out.keep k4)
  have BY_4 := Lib.hid (BY_3.out.keep k4)
  have BZ_4 := Lib.hid (BZ_3.out.keep k4)
  have T_4 := Lib.hid (T_3.out.keep k4)
  have KW_4 := Lib.hid (KW_3.out.trans k4)
  clear k4 BX_3 BY_3 BZ_3 T_3 KW_3
  obtain ⟨BX_c0, BX_c1, BX_c2, -, -, -⟩ := BX_4.out.c3
  obtain ⟨BY_c0, BY_c1, BY_c2, -, -, -⟩ := BY_4.out.c3
  obtain ⟨BZ_c0, BZ_c1, BZ_c2, -, -, -⟩ := BZ_4.out.c3
  go_wp2_with fail
  go_ret
  exact ⟨rfl, KW_4.out⟩
set_option maxHeartbeats 8000000 in
theorem make_law_s0 {w : World} {xb : Bool} {xa xh : Option Addr} {xn xc xm xg : Nat} {x1 x2 : List Nat} (hx1 : Rd w xa xn xc x1) (hx2 : Rd w xh xm xg x2) {yb : Bool} {ya yh : Option Addr} {yn yc ym yg : Nat} {y1 y2 : List Nat} (hy1 : Rd w ya yn yc y1) (hy2 : Rd w yh ym yg y2) {zb : Bool} {za zh : Option Addr} {zn zc zm zg : Nat} {z1 z2 : List Nat} (hz1 : Rd w za zn zc z1) (hz2 : Rd w zh zm zg z2) (hT : Tab w) (ex : decide (xn ≤ 2 ∧ xm ≤ 2) = true) (ey : decide (yn ≤ 2 ∧ ym ≤ 2) = true) (ez : decide (zn ≤ 2 ∧ zm ≤ 2) = true) (hc : ¬ 0 < rC (rv xb (nv x1) (nv x2)) (rv yb (nv y1) (nv y2))) : Calls Tryd.prog 4 #[.agg #[.bool xb, .slice xa xn xc, .slice xh xm xg], .agg #[.bool yb, .slice ya yn yc, .slice yh ym yg], .agg #[.bool zb, .slice za zn zc, .slice zh zm zg]] w (BPost true w) := by
  have KW_0 := Lib.hid (show Keep w (((w.alloc (.cells #[.bool xb, .slice xa xn xc, .slice xh xm xg] 32)).alloc (.cells #[.bool yb, .slice ya yn yc, .slice yh ym yg] 32)).alloc (.cells #[.bool zb, .slice za zn zc, .slice zh zm zg] 32)) from (Keep.alloc (Keep.alloc (Keep.alloc (Keep.refl _) _) _) _))
  have BX_0 := Lib.hid (show Bx (w.heap.size) [.bool xb, .slice xa xn xc, .slice xh xm xg] (((w.alloc (.cells #[.bool xb, .slice xa xn xc, .slice xh xm xg] 32)).alloc (.cells #[.bool yb, .slice ya yn yc, .slice yh ym yg] 32)).alloc (.cells #[.bool zb, .slice za zn zc, .slice zh zm zg] 32)) from ((Bx.new w 32 (.b _ (.s _ _ _ (.s _ _ _ .nil)))).at (g' := w.heap.size) (by simp)).keep (Keep.alloc (Keep.alloc (Keep.refl _) _) _))
  have BY_0 := Lib.hid (show Bx (w.heap.size + 1) [.bool yb, .slice ya yn yc, .slice yh ym yg] (((w.alloc (.cells #[.bool xb, .slice xa xn xc, .slice xh xm xg] 32)).alloc (.cells #[.bool yb, .slice ya yn yc, .slice yh ym yg] 32)).alloc (.cells #[.bool zb, .slice za zn zc, .slice zh zm zg] 32)) from ((Bx.new (w.alloc (.cells #[.bool xb, .slice xa xn xc, .slice xh xm xg] 32)) 32 (.b _ (.s _ _ _ (.s _ _ _ .nil)))).at (g' := w.heap.size + 1) (by simp)).keep (Keep.alloc (Keep.refl _) _))
  have BZ_0 := Lib.hid (show Bx (w.heap.size + 1 + 1) [.bool zb, .slice za zn zc, .slice zh zm zg] (((w.alloc (.cells #[.bool xb, .slice xa xn xc, .slice xh xm xg] 32)).alloc (.cells #[.bool yb, .slice ya yn yc, .slice yh ym yg] 32)).alloc (.cells #[.bool zb, .slice za zn zc, .slice zh zm zg] 32)) from ((Bx.new ((w.alloc (.cells #[.bool xb, .slice xa xn xc, .slice xh xm xg] 32)).alloc (.cells #[.bool yb, .slice ya yn yc, .slice yh ym yg] 32)) 32 (.b _ (.s _ _ _ (.s _ _ _ .nil)))).at (g' := w.heap.size + 1 + 1) (by simp)).keep (Keep.refl _))
  have X1_0 := Lib.hid (hx1.below KW_0.out)
  have X2_0 := Lib.hid (hx2.below KW_0.out)
  have Y1_0 := Lib.hid (hy1.below KW_0.out)
  have Y2_0 := Lib.hid (hy2.below KW_0.out)
  have T_0 := Lib.hid (hT.keep KW_0.out)
  have AW := Lib.hid (fun w1 (hT1 : Tab w1) => awake6_c w1 hT1)
  have Sx := Lib.hid (fun w1 => short_c (w := w1) (xb := xb) (xa := xa) (xn := xn) (xc := xc) (xh := xh) (xm := xm) (xg := xg))
  rw [ex] at Sx
  have Sy := Lib.hid (fun w1 => short_c (w := w1) (xb := yb) (xa := ya) (xn := yn) (xc := yc) (xh := yh) (xm := ym) (xg := yg))
  rw [ey] at Sy
  have Sz := Lib.hid (fun w1 => short_c (w := w1) (xb := zb) (xa := za) (xn := zn) (xc := zc) (xh := zh) (xm := zm) (xg := zg))
  rw [ez] at Sz
  have hjx := of_decide_eq_true ex
  have jx1 : x1.length ≤ 2 := by rw [hx1.len_eq]; exact hjx.1
  have jx2 : x2.length ≤ 2 := by rw [hx2.len_eq]; exact hjx.2
  have hrx := rdRa (s := xb) hx1 hx2 jx1 jx2
  obtain ⟨p, hqx⟩ : ∃ z, rv xb (nv x1) (nv x2) = z := ⟨_, rfl⟩
  rw [hqx] at hrx hc
  have XQ_0 := Lib.hid (hrx.keep KW_0.out)
  have rbp := hrx.rb (by omega)
  clear hqx hjx
  have hjy := of_decide_eq_true ey
  have jy1 : y1.length ≤ 2 := by rw [hy1.len_eq]; exact hjy.1
  have jy2 : y2.length ≤ 2 := by rw [hy2.len_eq]; exact hjy.2
  have hry := rdRa (s := yb) hy1 hy2 jy1 jy2
  obtain ⟨q, hqy⟩ : ∃ z, rv yb (nv y1) (nv y2) = z := ⟨_, rfl⟩
  rw [hqy] at hry hc
  have YQ_0 := Lib.hid (hry.keep KW_0.out)
  have rbq := hry.rb (by omega)
  clear hqy hjy
  have hjz := of_decide_eq_true ez
  have jz1 : z1.length ≤ 2 := by rw [hz1.len_eq]; exact hjz.1
  have jz2 : z2.length ≤ 2 := by rw [hz2.len_eq]; exact hjz.2
  have hrz := rdRa (s := zb) hz1 hz2 jz1 jz2
  obtain ⟨r, hqz⟩ : ∃ z, rv zb (nv z1) (nv z2) = z := ⟨_, rfl⟩
  rw [hqz] at hrz
  have ZQ_0 := Lib.hid (hrz.keep KW_0.out)
  have rbr := hrz.rb (by omega)
  clear hqz hjz
  have MK := Lib.hid (fun w1 (h : Ra w1 (.agg #[.bool xb, .slice xa xn xc, .slice xh xm xg]) p 2) (h' : Ra w1 (.agg #[.bool yb, .slice ya yn yc, .slice yh ym yg]) q 2) (hT1 : Tab w1) => imake_0 h h' (by omega) (by omega) hT1 hc)
  have RK := Lib.hid (fun w1 (h : Ra w1 (.agg #[.bool xb, .slice xa xn xc, .slice xh xm xg]) p 2) (h' : Ra w1 (.agg #[.bool yb, .slice ya yn yc, .slice yh ym yg]) q 2) => rimake_0 h h' (by omega) (by omega) hc)
  have VA := Lib.hid (fun w1 (h1 : Rd w1 xa xn xc x1) (h2 : Rd w1 xh xm xg x2) (h3 : Rd w1 ya yn yc y1) (h4 : Rd w1 yh ym yg y2) (hT1 : Tab w1) => ivalid_c (w := w1) (xlb := xb) (xub := yb) h1 h2 h3 h4 jx1 jx2 jy1 jy2 (by omega) (by omega) hT1)
  have RV := Lib.hid (fun w1 (h1 : Rd w1 xa xn xc x1) (h2 : Rd w1 xh xm xg x2) (h3 : Rd w1 ya yn yc y1) (h4 : Rd w1 yh ym yg y2) => rivalid_c (w := w1) (xlb := xb) (xub := yb) h1 h2 h3 h4 jx1 jx2 jy1 jy2 (by omega) (by omega))
  obtain ⟨b, hb⟩ : ∃ b, validI xb x1 x2 yb y1 y2 = b := ⟨_, rfl⟩
  rw [hb] at VA RV
  have hle : p ≤ q := by rw [rC_pos] at hc; grind
  have VI := Lib.hid (fun w1 u (h : ICr w1 u p q) (hT1 : Tab w1) => ivalid_ok h rbp rbq (by omega) (by omega) hT1 hle)
  have CO := Lib.hid (fun w1 u (h : ICr w1 u p q) (h' : Ra w1 (.agg #[.bool zb, .slice za zn zc, .slice zh zm zg]) r 2) => icontains_c (h.ra rbp rbq) h' (by omega) (by omega))
  have RC := Lib.hid (fun w1 u (h : ICr w1 u p q) (h' : Ra w1 (.agg #[.bool zb, .slice za zn zc, .slice zh zm zg]) r 2) => ricontains_c (h.ra rbp rbq) h' (by omega) (by omega))
  obtain ⟨c, hcc⟩ : ∃ c, decide (p ≤ r ∧ r ≤ q) = c := ⟨_, rfl⟩
  rw [hcc] at CO RC
  clear hcc hle
  clear hb hc hT hrx hry hrz rbp rbq rbr ex ey ez jx1 jx2 jy1 jy2 jz1 jz2 hx1 hx2 hy1 hy2 hz1 hz2
  go_enter Tryd.func4, Tryd.ntmps4
  obtain ⟨BX_c0, BX_c1, BX_c2, -, -, -⟩ := BX_0.out.c3
  obtain ⟨BY_c0, BY_c1, BY_c2, -, -, -⟩ := BY_0.out.c3
  obtain ⟨BZ_c0, BZ_c1, BZ_c2, -, -, -⟩ := BZ_0.out.c3
  go_wp2_with fail
  refine Calls.mono (AW.out _ T_0.out) ?_
  rintro e w1 ⟨rfl, k1⟩
  clear BX_c0 BX_c1 BX_c2 BY_c0 BY_c1 BY_c2 BZ_c0 BZ_c1 BZ_c2
  have BX_1 := Lib.hid (BX_0.out.keep k1)
  have BY_1 := Lib.hid (BY_0.out.keep k1)
  have BZ_1 := Lib.hid (BZ_0.out.keep k1)
  have X1_1 := Lib.hid (X1_0.out.keep k1)
  have X2_1 := Lib.hid (X2_0.out.keep k1)
  have Y1_1 := Lib.hid (Y1_0.out.keep k1)
  have Y2_1 := Lib.hid (Y2_0.out.keep k1)
  have T_1 := Lib.hid (T_0.out.keep k1)
  have XQ_1 := Lib.hid (XQ_0.out.keep k1)
  have YQ_1 := Lib.hid (YQ_0.out.keep k1)
  have ZQ_1 := Lib.hid (ZQ_0.out.keep k1)
  have KW_1 := Lib.hid (KW_0.out.trans k1)
  clear k1 BX_0 BY_0 BZ_0 X1_0 X2_0 Y1_0 Y2_0 T_0 XQ_0 YQ_0 ZQ_0 KW_0
  obtain ⟨BX_c0, BX_c1, BX_c2, -, -, -⟩ := BX_1.out.c3
  obtain ⟨BY_c0, BY_c1, BY_c2, -, -, -⟩ := BY_1.out.c3
  obtain ⟨BZ_c0, BZ_c1, BZ_c2, -, -, -⟩ := BZ_1.out.c3
  go_wp2_with fail
  refine Calls.mono (Sx.out _) ?_
  rintro e w2 ⟨rfl, k2⟩
  clear BX_c0 BX_c1 BX_c2 BY_c0 BY_c1 BY_c2 BZ_c0 BZ_c1 BZ_c2
  have BX_2 := Lib.hid (BX_1.out.keep k2)
  have BY_2 := Lib.hid (BY_1.out.keep k2)
  have BZ_2 := Lib.hid (BZ_1.out.keep k2)
  have X1_2 := Lib.hid (X1_1.out.keep k2)
  have X2_2 := Lib.hid (X2_1.out.keep k2)
  have Y1_2 := Lib.hid (Y1_1.out.keep k2)
  have Y2_2 := Lib.hid (Y2_1.out.keep k2)
  have T_2 := Lib.hid (T_1.out.keep k2)
  have XQ_2 := Lib.hid (XQ_1.out.keep k2)
  have YQ_2 := Lib.hid (YQ_1.out.keep k2)
  have ZQ_2 := Lib.hid (ZQ_1.out.keep k2)
  have KW_2 := Lib.hid (KW_1.out.trans k2)
  clear k2 BX_1 BY_1 BZ_1 X1_1 X2_1 Y1_1 Y2_1 T_1 XQ_1 YQ_1 ZQ_1 KW_1
  obtain ⟨BX_c0, BX_c1, BX_c2, -, -, -⟩ := BX_2.out.c3
  obtain ⟨BY_c0, BY_c1, BY_c2, -, -, -⟩ := BY_2.out.c3
  obtain ⟨BZ_c0, BZ_c1, BZ_c2, -, -, -⟩ := BZ_2.out.c3
  go_wp2_with fail
  refine Calls.mono (Sy.out _) ?_
  rintro e w3 ⟨rfl, k3⟩
  clear BX_c0 BX_c1 BX_c2 BY_c0 BY_c1 BY_c2 BZ_c0 BZ_c1 BZ_c2
  have BX_3 := Lib.hid (BX_2.out.keep k3)
  have BY_3 := Lib.hid (BY_2.out.keep k3)
  have BZ_3 := Lib.hid (BZ_2.out.keep k3)
  have X1_3 := Lib.hid (X1_2.out.keep k3)
  have X2_3 := Lib.hid (X2_2.out.keep k3)
  have Y1_3 := Lib.hid (Y1_2.out.keep k3)
  have Y2_3 := Lib.hid (Y2_2.out.keep k3)
  have T_3 := Lib.hid (T_2.out.keep k3)
  have XQ_3 := Lib.hid (XQ_2.out.keep k3)
  have YQ_3 := Lib.hid (YQ_2.out.keep k3)
  have ZQ_3 := Lib.hid (ZQ_2.out.keep k3)
  have KW_3 := Lib.hid (KW_2.out.trans k3)
  clear k3 BX_2 BY_2 BZ_2 X1_2 X2_2 Y1_2 Y2_2 T_2 XQ_2 YQ_2 ZQ_2 KW_2
  obtain ⟨BX_c0, BX_c1, BX_c2, -, -, -⟩ := BX_3.out.c3
  obtain ⟨BY_c0, BY_c1, BY_c2, -, -, -⟩ := BY_3.out.c3
  obtain ⟨BZ_c0, BZ_c1, BZ_c2, -, -, -⟩ := BZ_3.out.c3
  go_wp2_with fail
  refine Calls.mono (Sz.out _) ?_
  rintro e w4 ⟨rfl, k4⟩
  clear BX_c0 BX_c1 BX_c2 BY_c0 BY_c1 BY_c2 BZ_c0 BZ_c1 BZ_c2
  have BX_4 := Lib.hid (BX_3.out.keep k4)
  have BY_4 := Lib.hid (BY_3.out.keep k4)
  have BZ_4 := Lib.hid (BZ_3.out.keep k4)
  have X1_4 := Lib.hid (X1_3.out.keep k4)
  have X2_4 := Lib.hid (X2_3.out.keep k4)
  have Y1_4 := Lib.hid (Y1_3.out.keep k4)
  have Y2_4 := Lib.hid (Y2_3.out.keep k4)
  have T_4 := Lib.hid (T_3.out.keep k4)
  have XQ_4 := Lib.hid (XQ_3.out.keep k4)
  have YQ_4 := Lib.hid (YQ_3.out.keep k4)
  have ZQ_4 := Lib.hid (ZQ_3.out.keep k4)
  have KW_4 := Lib.hid (KW_3.out.trans k4)
  clear k4 BX_3 BY_3 BZ_3 X1_3 X2_3 Y1_3 Y2_3 T_3 XQ_3 YQ_3 ZQ_3 KW_3
  clear AW Sx Sy Sz
  obtain ⟨BX_c0, BX_c1, BX_c2, -, -, -⟩ := BX_4.out.c3
  obtain ⟨BY_c0, BY_c1, BY_c2, -, -, -⟩ := BY_4.out.c3
  obtain ⟨BZ_c0, BZ_c1, BZ_c2, -, -, -⟩ := BZ_4.out.c3
  go_wp2_with fail
  refine Calls.mono (MK.out _ XQ_4.out YQ_4.out T_4.out) ?_
  rintro e w5 ⟨um, rfl, hM, k5⟩
  clear BX_c0 BX_c1 BX_c2 BY_c0 BY_c1 BY_c2 BZ_c0 BZ_c1 BZ_c2
  have BX_5 := Lib.hid (BX_4.out.keep k5)
  have BY_5 := Lib.hid (BY_4.out.keep k5)
  have BZ_5 := Lib.hid (BZ_4.out.keep k5)
  have X1_5 := Lib.hid (X1_4.out.keep k5)
  have X2_5 := Lib.hid (X2_4.out.keep k5)
  have Y1_5 := Lib.hid (Y1_4.out.keep k5)
  have Y2_5 := Lib.hid (Y2_4.out.keep k5)
  have T_5 := Lib.hid (T_4.out.keep k5)
  have XQ_5 := Lib.hid (XQ_4.out.keep k5)
  have YQ_5 := Lib.hid (YQ_4.out.keep k5)
  have ZQ_5 := Lib.hid (ZQ_4.out.keep k5)
  have M0_5 := Lib.hid hM
  have KW_5 := Lib.hid (KW_4.out.trans k5)
  clear k5 BX_4 BY_4 BZ_4 X1_4 X2_4 Y1_4 Y2_4 T_4 XQ_4 YQ_4 ZQ_4 hM KW_4
  obtain ⟨mlb, mla, mln, mlc, mlh, mlm, mlg, mub, mua, mun, muc, muh, mum, mug, rfl, hM2⟩ := ICr.fv M0_5.out
  have M_5 := Lib.hid hM2
  clear hM2 M0_5
  have BX_6 := Lib.hid (BX_5.out.keep (Keep.alloc (Keep.refl _) (.cells #[.bool mlb, .slice mla mln mlc, .slice mlh mlm mlg, .bool mub, .slice mua mun muc, .slice muh mum mug] 35)))
  have BY_6 := Lib.hid (BY_5.out.keep (Keep.alloc (Keep.refl _) (.cells #[.bool mlb, .slice mla mln mlc, .slice mlh mlm mlg, .bool mub, .slice mua mun muc, .slice muh mum mug] 35)))
  have BZ_6 := Lib.hid (BZ_5.out.keep (Keep.alloc (Keep.refl _) (.cells #[.bool mlb, .slice mla mln mlc, .slice mlh mlm mlg, .bool mub, .slice mua mun muc, .slice muh mum mug] 35)))
  have X1_6 := Lib.hid (X1_5.out.keep (Keep.alloc (Keep.refl _) (.cells #[.bool mlb, .slice mla mln mlc, .slice mlh mlm mlg, .bool mub, .slice mua mun muc, .slice muh mum mug] 35)))
  have X2_6 := Lib.hid (X2_5.out.keep (Keep.alloc (Keep.refl _) (.cells #[.bool mlb, .slice mla mln mlc, .slice mlh mlm mlg, .bool mub, .slice mua mun muc, .slice muh mum mug] 35)))
  have Y1_6 := Lib.hid (Y1_5.out.keep (Keep.alloc (Keep.refl _) (.cells #[.bool mlb, .slice mla mln mlc, .slice mlh mlm mlg, .bool mub, .slice mua mun muc, .slice muh mum mug] 35)))
  have Y2_6 := Lib.hid (Y2_5.out.keep (Keep.alloc (Keep.refl _) (.cells #[.bool mlb, .slice mla mln mlc, .slice mlh mlm mlg, .bool mub, .slice mua mun muc, .slice muh mum mug] 35)))
  have T_6 := Lib.hid (T_5.out.keep (Keep.alloc (Keep.refl _) (.cells #[.bool mlb, .slice mla mln mlc, .slice mlh mlm mlg, .bool mub, .slice mua mun muc, .slice muh mum mug] 35)))
  have XQ_6 := Lib.hid (XQ_5.out.keep (Keep.alloc (Keep.refl _) (.cells #[.bool mlb, .slice mla mln mlc, .slice mlh mlm mlg, .bool mub, .slice mua mun muc, .slice muh mum mug] 35)))
  have YQ_6 := Lib.hid (YQ_5.out.keep (Keep.alloc (Keep.refl _) (.cells #[.bool mlb, .slice mla mln mlc, .slice mlh mlm mlg, .bool mub, .slice mua mun muc, .slice muh mum mug] 35)))
  have ZQ_6 := Lib.hid (ZQ_5.out.keep (Keep.alloc (Keep.refl _) (.cells #[.bool mlb, .slice mla mln mlc, .slice mlh mlm mlg, .bool mub, .slice mua mun muc, .slice muh mum mug] 35)))
  have M_6 := Lib.hid (M_5.out.keep (Keep.alloc (Keep.refl _) (.cells #[.bool mlb, .slice mla mln mlc, .slice mlh mlm mlg, .bool mub, .slice mua mun muc, .slice muh mum mug] 35)))
  have KW_6 := Lib.hid (KW_5.out.trans (Keep.alloc (Keep.refl _) (.cells #[.bool mlb, .slice mla mln mlc, .slice mlh mlm mlg, .bool mub, .slice mua mun muc, .slice muh mum mug] 35)))
  have BI_6 := Lib.hid (show Bx w5.heap.size [.bool mlb, .slice mla mln mlc, .slice mlh mlm mlg, .bool mub, .slice mua mun muc, .slice muh mum mug] (w5.alloc (.cells #[.bool mlb, .slice mla mln mlc, .slice mlh mlm mlg, .bool mub, .slice mua mun muc, .slice muh mum mug] 35)) from Bx.new w5 35 (.b _ (.s _ _ _ (.s _ _ _ (.b _ (.s _ _ _ (.s _ _ _ .nil)))))))
  clear BX_5 BY_5 BZ_5 X1_5 X2_5 Y1_5 Y2_5 T_5 XQ_5 YQ_5 ZQ_5 M_5 KW_5
  obtain ⟨BX_c0, BX_c1, BX_c2, -, -, -⟩ := BX_6.out.c3
  obtain ⟨BY_c0, BY_c1, BY_c2, -, -, -⟩ := BY_6.out.c3
  obtain ⟨BZ_c0, BZ_c1, BZ_c2, -, -, -⟩ := BZ_6.out.c3
  obtain ⟨BI_c0, BI_c1, BI_c2, BI_c3, BI_c4, BI_c5, -, -, -, -, -, -⟩ := BI_6.out.c6
  go_wp2_with fail
  refine Calls.mono (RK.out _ XQ_6.out YQ_6.out) ?_
  rintro e w7 ⟨un, rfl, hN, k7⟩
  clear BX_c0 BX_c1 BX_c2 BY_c0 BY_c1 BY_c2 BZ_c0 BZ_c1 BZ_c2 BI_c0 BI_c1 BI_c2 BI_c3 BI_c4 BI_c5
  have BX_7 := Lib.hid (BX_6.out.keep k7)
  have BY_7 := Lib.hid (BY_6.out.keep k7)
  have BZ_7 := Lib.hid (BZ_6.out.keep k7)
  have X1_7 := Lib.hid (X1_6.out.keep k7)
  have X2_7 := Lib.hid (X2_6.out.keep k7)
  have Y1_7 := Lib.hid (Y1_6.out.keep k7)
  have Y2_7 := Lib.hid (Y2_6.out.keep k7)
  have T_7 := Lib.hid (T_6.out.keep k7)
  have XQ_7 := Lib.hid (XQ_6.out.keep k7)
  have YQ_7 := Lib.hid (YQ_6.out.keep k7)
  have ZQ_7 := Lib.hid (ZQ_6.out.keep k7)
  have M_7 := Lib.hid (M_6.out.keep k7)
  have BI_7 := Lib.hid (BI_6.out.keep k7)
  have N0_7 := Lib.hid hN
  have KW_7 := Lib.hid (KW_6.out.trans k7)
  clear k7 BX_6 BY_6 BZ_6 X1_6 X2_6 Y1_6 Y2_6 T_6 XQ_6 YQ_6 ZQ_6 M_6 BI_6 hN KW_6
  obtain ⟨nlb, nla, nln, nlc, nlh, nlm, nlg, nub, nua, nun, nuc, nuh, num, nug, rfl, hN2⟩ := ICr.fv N0_7.out
  have N_7 := Lib.hid hN2
  clear hN2 N0_7
  have BX_8 := Lib.hid (BX_7.out.keep (Keep.alloc (Keep.refl _) (.cells #[.bool nlb, .slice nla nln nlc, .slice nlh nlm nlg, .bool nub, .slice nua nun nuc, .slice nuh num nug] 35)))
  have BY_8 := Lib.hid (BY_7.out.keep (Keep.alloc (Keep.refl _) (.cells #[.bool nlb, .slice nla nln nlc, .slice nlh nlm nlg, .bool nub, .slice nua nun nuc, .slice nuh num nug] 35)))
  have BZ_8 := Lib.hid (BZ_7.out.keep (Keep.alloc (Keep.refl _) (.cells #[.bool nlb, .slice nla nln nlc, .slice nlh nlm nlg, .bool nub, .slice nua nun nuc, .slice nuh num nug] 35)))
  have X1_8 := Lib.hid (X1_7.out.keep (Keep.alloc (Keep.refl _) (.cells #[.bool nlb, .slice nla nln nlc, .slice nlh nlm nlg, .bool nub, .slice nua nun nuc, .slice nuh num nug] 35)))
  have X2_8 := Lib.hid (X2_7.out.keep (Keep.alloc (Keep.refl _) (.cells #[.bool nlb, .slice nla nln nlc, .slice nlh nlm nlg, .bool nub, .slice nua nun nuc, .slice nuh num nug] 35)))
  have Y1_8 := Lib.hid (Y1_7.out.keep (Keep.alloc (Keep.refl _) (.cells #[.bool nlb, .slice nla nln nlc, .slice nlh nlm nlg, .bool nub, .slice nua nun nuc, .slice nuh num nug] 35)))
  have Y2_8 := Lib.hid (Y2_7.out.keep (Keep.alloc (Keep.refl _) (.cells #[.bool nlb, .slice nla nln nlc, .slice nlh nlm nlg, .bool nub, .slice nua nun nuc, .slice nuh num nug] 35)))
  have T_8 := Lib.hid (T_7.out.keep (Keep.alloc (Keep.refl _) (.cells #[.bool nlb, .slice nla nln nlc, .slice nlh nlm nlg, .bool nub, .slice nua nun nuc, .slice nuh num nug] 35)))
  have XQ_8 := Lib.hid (XQ_7.out.keep (Keep.alloc (Keep.refl _) (.cells #[.bool nlb, .slice nla nln nlc, .slice nlh nlm nlg, .bool nub, .slice nua nun nuc, .slice nuh num nug] 35)))
  have YQ_8 := Lib.hid (YQ_7.out.keep (Keep.alloc (Keep.refl _) (.cells #[.bool nlb, .slice nla nln nlc, .slice nlh nlm nlg, .bool nub, .slice nua nun nuc, .slice nuh num nug] 35)))
  have ZQ_8 := Lib.hid (ZQ_7.out.keep (Keep.alloc (Keep.refl _) (.cells #[.bool nlb, .slice nla nln nlc, .slice nlh nlm nlg, .bool nub, .slice nua nun nuc, .slice nuh num nug] 35)))
  have M_8 := Lib.hid (M_7.out.keep (Keep.alloc (Keep.refl _) (.cells #[.bool nlb, .slice nla nln nlc, .slice nlh nlm nlg, .bool nub, .slice nua nun nuc, .slice nuh num nug] 35)))
  have BI_8 := Lib.hid (BI_7.out.keep (Keep.alloc (Keep.refl _) (.cells #[.bool nlb, .slice nla nln nlc, .slice nlh nlm nlg, .bool nub, .slice nua nun nuc, .slice nuh num nug] 35)))
  have N_8 := Lib.hid (N_7.out.keep (Keep.alloc (Keep.refl _) (.cells #[.bool nlb, .slice nla nln nlc, .slice nlh nlm nlg, .bool nub, .slice nua nun nuc, .slice nuh num nug] 35)))
  have KW_8 := Lib.hid (KW_7.out.trans (Keep.alloc (Keep.refl _) (.cells #[.bool nlb, .slice nla nln nlc, .slice nlh nlm nlg, .bool nub, .slice nua nun nuc, .slice nuh num nug] 35)))
  have BJ_8 := Lib.hid (show Bx w7.heap.size [.bool nlb, .slice nla nln nlc, .slice nlh nlm nlg, .bool nub, .slice nua nun nuc, .slice nuh num nug] (w7.alloc (.cells #[.bool nlb, .slice nla nln nlc, .slice nlh nlm nlg, .bool nub, .slice nua nun nuc, .slice nuh num nug] 35)) from Bx.new w7 35 (.b _ (.s _ _ _ (.s _ _ _ (.b _ (.s _ _ _ (.s _ _ _ .nil)))))))
  clear BX_7 BY_7 BZ_7 X1_7 X2_7 Y1_7 Y2_7 T_7 XQ_7 YQ_7 ZQ_7 M_7 BI_7 N_7 KW_7
  clear MK RK
  obtain ⟨pBX0, pBX1, pBX2, -, -, -⟩ := BX_8.out.c3
  obtain ⟨pBY0, pBY1, pBY2, -, -, -⟩ := BY_8.out.c3
  have BX_9 := Lib.hid (BX_8.out.keep (Keep.alloc (Keep.refl _) (.cells #[.bool xb, .slice xa xn xc, .slice xh xm xg, .bool yb, .slice ya yn yc, .slice yh ym yg] 35)))
  have BY_9 := Lib.hid (BY_8.out.keep (Keep.alloc (Keep.refl _) (.cells #[.bool xb, .slice xa xn xc, .slice xh xm xg, .bool yb, .slice ya yn yc, .slice yh ym yg] 35)))
  have BZ_9 := Lib.hid (BZ_8.out.keep (Keep.alloc (Keep.refl _) (.cells #[.bool xb, .slice xa xn xc, .slice xh xm xg, .bool yb, .slice ya yn yc, .slice yh ym yg] 35)))
  have X1_9 := Lib.hid (X1_8.out.keep (Keep.alloc (Keep.refl _) (.cells #[.bool xb, .slice xa xn xc, .slice xh xm xg, .bool yb, .slice ya yn yc, .slice yh ym yg] 35)))
  have X2_9 := Lib.hid (X2_8.out.keep (Keep.alloc (Keep.refl _) (.cells #[.bool xb, .slice xa xn xc, .slice xh xm xg, .bool yb, .slice ya yn yc, .slice yh ym yg] 35)))
  have Y1_9 := Lib.hid (Y1_8.out.keep (Keep.alloc (Keep.refl _) (.cells #[.bool xb, .slice xa xn xc, .slice xh xm xg, .bool yb, .slice ya yn yc, .slice yh ym yg] 35)))
  have Y2_9 := Lib.hid (Y2_8.out.keep (Keep.alloc (Keep.refl _) (.cells #[.bool xb, .slice xa xn xc, .slice xh xm xg, .bool yb, .slice ya yn yc, .slice yh ym yg] 35)))
  have T_9 := Lib.hid (T_8.out.keep (Keep.alloc (Keep.refl _) (.cells #[.bool xb, .slice xa xn xc, .slice xh xm xg, .bool yb, .slice ya yn yc, .slice yh ym yg] 35)))
  have XQ_9 := Lib.hid (XQ_8.out.keep (Keep.alloc (Keep.refl _) (.cells #[.bool xb, .slice xa xn xc, .slice xh xm xg, .bool yb, .slice ya yn yc, .slice yh ym yg] 35)))
  have YQ_9 := Lib.hid (YQ_8.out.keep (Keep.alloc (Keep.refl _) (.cells #[.bool xb, .slice xa xn xc, .slice xh xm xg, .bool yb, .slice ya yn yc, .slice yh ym yg] 35)))
  have ZQ_9 := Lib.hid (ZQ_8.out.keep (Keep.alloc (Keep.refl _) (.cells #[.bool xb, .slice xa xn xc, .slice xh xm xg, .bool yb, .slice ya yn yc, .slice yh ym yg] 35)))
  have M_9 := Lib.hid (M_8.out.keep (Keep.alloc (Keep.refl _) (.cells #[.bool xb, .slice xa xn xc, .slice xh xm xg, .bool yb, .slice ya yn yc, .slice yh ym yg] 35)))
  have BI_9 := Lib.hid (BI_8.out.keep (Keep.alloc (Keep.refl _) (.cells #[.bool xb, .slice xa xn xc, .slice xh xm xg, .bool yb, .slice ya yn yc, .slice yh ym yg] 35)))
  have N_9 := Lib.hid (N_8.out.keep (Keep.alloc (Keep.refl _) (.cells #[.bool xb, .slice xa xn xc, .slice xh xm xg, .bool yb, .slice ya yn yc, .slice yh ym yg] 35)))
  have BJ_9 := Lib.hid (BJ_8.out.keep (Keep.alloc (Keep.refl _) (.cells #[.bool xb, .slice xa xn xc, .slice xh xm xg, .bool yb, .slice ya yn yc, .slice yh ym yg] 35)))
  have KW_9 := Lib.hid (KW_8.out.trans (Keep.alloc (Keep.refl _) (.cells #[.bool xb, .slice xa xn xc, .slice xh xm xg, .bool yb, .slice ya yn yc, .slice yh ym yg] 35)))
  have BW_9 := Lib.hid (show Bx (w7.alloc (.cells #[.bool nlb, .slice nla nln nlc, .slice nlh nlm nlg, .bool nub, .slice nua nun nuc, .slice nuh num nug] 35)).heap.size [.bool xb, .slice xa xn xc, .slice xh xm xg, .bool yb, .slice ya yn yc, .slice yh ym yg] ((w7.alloc (.cells #[.bool nlb, .slice nla nln nlc, .slice nlh nlm nlg, .bool nub, .slice nua nun nuc, .slice nuh num nug] 35)).alloc (.cells #[.bool xb, .slice xa xn xc, .slice xh xm xg, .bool yb, .slice ya yn yc, .slice yh ym yg] 35)) from Bx.new (w7.alloc (.cells #[.bool nlb, .slice nla nln nlc, .slice nlh nlm nlg, .bool nub, .slice nua nun nuc, .slice nuh num nug] 35)) 35 (.b _ (.s _ _ _ (.s _ _ _ (.b _ (.s _ _ _ (.s _ _ _ .nil)))))))
  clear BX_8 BY_8 BZ_8 X1_8 X2_8 Y1_8 Y2_8 T_8 XQ_8 YQ_8 ZQ_8 M_8 BI_8 N_8 BJ_8 KW_8
  have BW2 := Lib.hid ((show Bx _ _ _ from BW_9.out).at (g' := w7.heap.size + 1) (by simp))
  clear BW_9
  have BW_9b := BW2
  clear BW2
  have BX_10 := Lib.hid (BX_9.out.keep (keep_drew _))
  clear BX_9
  have BY_10 := Lib.hid (BY_9.out.keep (keep_drew _))
  clear BY_9
  have BZ_10 := Lib.hid (BZ_9.out.keep (keep_drew _))
  clear BZ_9
  have X1_10 := Lib.hid (X1_9.out.keep (keep_drew _))
  clear X1_9
  have X2_10 := Lib.hid (X2_9.out.keep (keep_drew _))
  clear X2_9
  have Y1_10 := Lib.hid (Y1_9.out.keep (keep_drew _))
  clear Y1_9
  have Y2_10 := Lib.hid (Y2_9.out.keep (keep_drew _))
  clear Y2_9
  have T_10 := Lib.hid (T_9.out.keep (keep_drew _))
  clear T_9
  have XQ_10 := Lib.hid (XQ_9.out.keep (keep_drew _))
  clear XQ_9
  have YQ_10 := Lib.hid (YQ_9.out.keep (keep_drew _))
  clear YQ_9
  have ZQ_10 := Lib.hid (ZQ_9.out.keep (keep_drew _))
  clear ZQ_9
  have M_10 := Lib.hid (M_9.out.keep (keep_drew _))
  clear M_9
  have BI_10 := Lib.hid (BI_9.out.keep (keep_drew _))
  clear BI_9
  have N_10 := Lib.hid (N_9.out.keep (keep_drew _))
  clear N_9
  have BJ_10 := Lib.hid (BJ_9.out.keep (keep_drew _))
  clear BJ_9
  have BW_10 := Lib.hid (BW_9b.out.keep (keep_drew _))
  clear BW_9b
  have KW_10 := Lib.hid (KW_9.out.trans (keep_drew _))
  clear KW_9
  obtain ⟨cBI_10_0, cBI_10_1, cBI_10_2, cBI_10_3, cBI_10_4, cBI_10_5, -, -, -, -, -, -⟩ := BI_10.out.c6
  obtain ⟨cBJ_10_0, cBJ_10_1, cBJ_10_2, cBJ_10_3, cBJ_10_4, cBJ_10_5, -, -, -, -, -, -⟩ := BJ_10.out.c6
  obtain ⟨cBW_10_0, cBW_10_1, cBW_10_2, cBW_10_3, cBW_10_4, cBW_10_5, -, -, -, -, -, -⟩ := BW_10.out.c6
  go_wp2
  go_region_held3 (fun w' => w'.cell? ⟨w5.heap.size, 0, none⟩ = some (.bool mlb) ∧ w'.cell? ⟨w5.heap.size, 1, none⟩ = some (.slice mla mln mlc) ∧ w'.cell? ⟨w5.heap.size, 2, none⟩ = some (.slice mlh mlm mlg) ∧ w'.cell? ⟨w5.heap.size, 3, none⟩ = some (.bool mub) ∧ w'.cell? ⟨w5.heap.size, 4, none⟩ = some (.slice mua mun muc) ∧ w'.cell? ⟨w5.heap.size, 5, none⟩ = some (.slice muh mum mug) ∧ w'.cell? ⟨w7.heap.size, 0, none⟩ = some (.bool nlb) ∧ w'.cell? ⟨w7.heap.size, 1, none⟩ = some (.slice nla nln nlc) ∧ w'.cell? ⟨w7.heap.size, 2, none⟩ = some (.slice nlh nlm nlg) ∧ w'.cell? ⟨w7.heap.size, 3, none⟩ = some (.bool nub) ∧ w'.cell? ⟨w7.heap.size, 4, none⟩ = some (.slice nua nun nuc) ∧ w'.cell? ⟨w7.heap.size, 5, none⟩ = some (.slice nuh num nug) ∧ w'.cell? ⟨w7.heap.size + 1, 0, none⟩ = some (.bool xb) ∧ w'.cell? ⟨w7.heap.size + 1, 1, none⟩ = some (.slice xa xn xc) ∧ w'.cell? ⟨w7.heap.size + 1, 2, none⟩ = some (.slice xh xm xg) ∧ w'.cell? ⟨w7.heap.size + 1, 3, none⟩ = some (.bool yb) ∧ w'.cell? ⟨w7.heap.size + 1, 4, none⟩ = some (.slice ya yn yc) ∧ w'.cell? ⟨w7.heap.size + 1, 5, none⟩ = some (.slice yh ym yg)) (first | with_reducible exact ⟨cBI_13_0, cBI_13_1, cBI_13_2, cBI_13_3, cBI_13_4, cBI_13_5, cBJ_13_0, cBJ_13_1, cBJ_13_2, cBJ_13_3, cBJ_13_4, cBJ_13_5, cBW_13_0, cBW_13_1, cBW_13_2, cBW_13_3, cBW_13_4, cBW_13_5⟩ | with_reducible exact ⟨cBI_12_0, cBI_12_1, cBI_12_2, cBI_12_3, cBI_12_4, cBI_12_5, cBJ_12_0, cBJ_12_1, cBJ_12_2, cBJ_12_3, cBJ_12_4, cBJ_12_5, cBW_12_0, cBW_12_1, cBW_12_2, cBW_12_3, cBW_12_4, cBW_12_5⟩ | with_reducible exact ⟨cBI_11_0, cBI_11_1, cBI_11_2, cBI_11_3, cBI_11_4, cBI_11_5, cBJ_11_0, cBJ_11_1, cBJ_11_2, cBJ_11_3, cBJ_11_4, cBJ_11_5, cBW_11_0, cBW_11_1, cBW_11_2, cBW_11_3, cBW_11_4, cBW_11_5⟩ | with_reducible exact ⟨cBI_10_0, cBI_10_1, cBI_10_2, cBI_10_3, cBI_10_4, cBI_10_5, cBJ_10_0, cBJ_10_1, cBJ_10_2, cBJ_10_3, cBJ_10_4, cBJ_10_5, cBW_10_0, cBW_10_1, cBW_10_2, cBW_10_3, cBW_10_4, cBW_10_5⟩ | go_keep)
    (first
      | (go_at_call 22; ((with_reducible refine Calls.mono (RV.out _ X1_12.out X2_12.out Y1_12.out Y2_12.out) ?_); rintro e w13 ⟨rfl, k13⟩; have BX_13 := Lib.hid (BX_12.out.keep k13); have BY_13 := Lib.hid (BY_12.out.keep k13); have BZ_13 := Lib.hid (BZ_12.out.keep k13); have X1_13 := Lib.hid (X1_12.out.keep k13); have X2_13 := Lib.hid (X2_12.out.keep k13); have Y1_13 := Lib.hid (Y1_12.out.keep k13); have Y2_13 := Lib.hid (Y2_12.out.keep k13); have T_13 := Lib.hid (T_12.out.keep k13); have XQ_13 := Lib.hid (XQ_12.out.keep k13); have YQ_13 := Lib.hid (YQ_12.out.keep k13); have ZQ_13 := Lib.hid (ZQ_12.out.keep k13); have M_13 := Lib.hid (M_12.out.keep k13); have BI_13 := Lib.hid (BI_12.out.keep k13); have N_13 := Lib.hid (N_12.out.keep k13); have BJ_13 := Lib.hid (BJ_12.out.keep k13); have BW_13 := Lib.hid (BW_12.out.keep k13); have KW_13 := Lib.hid (KW_12.out.trans k13); obtain ⟨cBI_13_0, cBI_13_1, cBI_13_2, cBI_13_3, cBI_13_4, cBI_13_5, -, -, -, -, -, -⟩ := BI_13.out.c6; obtain ⟨cBJ_13_0, cBJ_13_1, cBJ_13_2, cBJ_13_3, cBJ_13_4, cBJ_13_5, -, -, -, -, -, -⟩ := BJ_13.out.c6; obtain ⟨cBW_13_0, cBW_13_1, cBW_13_2, cBW_13_3, cBW_13_4, cBW_13_5, -, -, -, -, -, -⟩ := BW_13.out.c6; clear k13))
      | (go_at_call 21; ((with_reducible refine Calls.mono (VA.out _ X1_11.out X2_11.out Y1_11.out Y2_11.out T_11.out) ?_); rintro e w12 ⟨rfl, k12⟩; have BX_12 := Lib.hid (BX_11.out.keep k12); have BY_12 := Lib.hid (BY_11.out.keep k12); have BZ_12 := Lib.hid (BZ_11.out.keep k12); have X1_12 := Lib.hid (X1_11.out.keep k12); have X2_12 := Lib.hid (X2_11.out.keep k12); have Y1_12 := Lib.hid (Y1_11.out.keep k12); have Y2_12 := Lib.hid (Y2_11.out.keep k12); have T_12 := Lib.hid (T_11.out.keep k12); have XQ_12 := Lib.hid (XQ_11.out.keep k12); have YQ_12 := Lib.hid (YQ_11.out.keep k12); have ZQ_12 := Lib.hid (ZQ_11.out.keep k12); have M_12 := Lib.hid (M_11.out.keep k12); have BI_12 := Lib.hid (BI_11.out.keep k12); have N_12 := Lib.hid (N_11.out.keep k12); have BJ_12 := Lib.hid (BJ_11.out.keep k12); have BW_12 := Lib.hid (BW_11.out.keep k12); have KW_12 := Lib.hid (KW_11.out.trans k12); obtain ⟨cBI_12_0, cBI_12_1, cBI_12_2, cBI_12_3, cBI_12_4, cBI_12_5, -, -, -, -, -, -⟩ := BI_12.out.c6; obtain ⟨cBJ_12_0, cBJ_12_1, cBJ_12_2, cBJ_12_3, cBJ_12_4, cBJ_12_5, -, -, -, -, -, -⟩ := BJ_12.out.c6; obtain ⟨cBW_12_0, cBW_12_1, cBW_12_2, cBW_12_3, cBW_12_4, cBW_12_5, -, -, -, -, -, -⟩ := BW_12.out.c6; clear k12))
      | (go_at_call 20; ((with_reducible refine Calls.mono (isame_t M_10.out N_10.out) ?_); rintro e w11 ⟨rfl, k11⟩; have BX_11 := Lib.hid (BX_10.out.keep k11); have BY_11 := Lib.hid (BY_10.out.keep k11); have BZ_11 := Lib.hid (BZ_10.out.keep k11); have X1_11 := Lib.hid (X1_10.out.keep k11); have X2_11 := Lib.hid (X2_10.out.keep k11); have Y1_11 := Lib.hid (Y1_10.out.keep k11); have Y2_11 := Lib.hid (Y2_10.out.keep k11); have T_11 := Lib.hid (T_10.out.keep k11); have XQ_11 := Lib.hid (XQ_10.out.keep k11); have YQ_11 := Lib.hid (YQ_10.out.keep k11); have ZQ_11 := Lib.hid (ZQ_10.out.keep k11); have M_11 := Lib.hid (M_10.out.keep k11); have BI_11 := Lib.hid (BI_10.out.keep k11); have N_11 := Lib.hid (N_10.out.keep k11); have BJ_11 := Lib.hid (BJ_10.out.keep k11); have BW_11 := Lib.hid (BW_10.out.keep k11); have KW_11 := Lib.hid (KW_10.out.trans k11); obtain ⟨cBI_11_0, cBI_11_1, cBI_11_2, cBI_11_3, cBI_11_4, cBI_11_5, -, -, -, -, -, -⟩ := BI_11.out.c6; obtain ⟨cBJ_11_0, cBJ_11_1, cBJ_11_2, cBJ_11_3, cBJ_11_4, cBJ_11_5, -, -, -, -, -, -⟩ := BJ_11.out.c6; obtain ⟨cBW_11_0, cBW_11_1, cBW_11_2, cBW_11_3, cBW_11_4, cBW_11_5, -, -, -, -, -, -⟩ := BW_11.out.c6; clear k11)))
  clear cBI_13_0 cBI_13_1 cBI_13_2 cBI_13_3 cBI_13_4 cBI_13_5 cBJ_13_0 cBJ_13_1 cBJ_13_2 cBJ_13_3 cBJ_13_4 cBJ_13_5 cBW_13_0 cBW_13_1 cBW_13_2 cBW_13_3 cBW_13_4 cBW_13_5 cBI_12_0 cBI_12_1 cBI_12_2 cBI_12_3 cBI_12_4 cBI_12_5 cBJ_12_0 cBJ_12_1 cBJ_12_2 cBJ_12_3 cBJ_12_4 cBJ_12_5 cBW_12_0 cBW_12_1 cBW_12_2 cBW_12_3 cBW_12_4 cBW_12_5 cBI_11_0 cBI_11_1 cBI_11_2 cBI_11_3 cBI_11_4 cBI_11_5 cBJ_11_0 cBJ_11_1 cBJ_11_2 cBJ_11_3 cBJ_11_4 cBJ_11_5 cBW_11_0 cBW_11_1 cBW_11_2 cBW_11_3 cBW_11_4 cBW_11_5 cBI_10_0 cBI_10_1 cBI_10_2 cBI_10_3 cBI_10_4 cBI_10_5 cBJ_10_0 cBJ_10_1 cBJ_10_2 cBJ_10_3 cBJ_10_4 cBJ_10_5 cBW_10_0 cBW_10_1 cBW_10_2 cBW_10_3 cBW_10_4 cBW_10_5
  have BX_14 := Lib.hid (BX_13.out.keep (keep_drew _))
  clear BX_13
  have BY_14 := Lib.hid (BY_13.out.keep (keep_drew _))
  clear BY_13
  have BZ_14 := Lib.hid (BZ_13.out.keep (keep_drew _))
  clear BZ_13
  have X1_14 := Lib.hid (X1_13.out.keep (keep_drew _))
  clear X1_13
  have X2_14 := Lib.hid (X2_13.out.keep (keep_drew _))
  clear X2_13
  have Y1_14 := Lib.hid (Y1_13.out.keep (keep_drew _))
  clear Y1_13
  have Y2_14 := Lib.hid (Y2_13.out.keep (keep_drew _))
  clear Y2_13
  have T_14 := Lib.hid (T_13.out.keep (keep_drew _))
  clear T_13
  have XQ_14 := Lib.hid (XQ_13.out.keep (keep_drew _))
  clear XQ_13
  have YQ_14 := Lib.hid (YQ_13.out.keep (keep_drew _))
  clear YQ_13
  have ZQ_14 := Lib.hid (ZQ_13.out.keep (keep_drew _))
  clear ZQ_13
  have M_14 := Lib.hid (M_13.out.keep (keep_drew _))
  clear M_13
  have BI_14 := Lib.hid (BI_13.out.keep (keep_drew _))
  clear BI_13
  have N_14 := Lib.hid (N_13.out.keep (keep_drew _))
  clear N_13
  have BJ_14 := Lib.hid (BJ_13.out.keep (keep_drew _))
  clear BJ_13
  have BW_14 := Lib.hid (BW_13.out.keep (keep_drew _))
  clear BW_13
  have KW_14 := Lib.hid (KW_13.out.trans (keep_drew _))
  clear KW_13
  obtain ⟨cBI_14_0, cBI_14_1, cBI_14_2, cBI_14_3, cBI_14_4, cBI_14_5, -, -, -, -, -, -⟩ := BI_14.out.c6
  obtain ⟨cBZ_14_0, cBZ_14_1, cBZ_14_2, -, -, -⟩ := BZ_14.out.c3
  go_wp2
  go_region_held3 (fun w' => w'.cell? ⟨w5.heap.size, 0, none⟩ = some (.bool mlb) ∧ w'.cell? ⟨w5.heap.size, 1, none⟩ = some (.slice mla mln mlc) ∧ w'.cell? ⟨w5.heap.size, 2, none⟩ = some (.slice mlh mlm mlg) ∧ w'.cell? ⟨w5.heap.size, 3, none⟩ = some (.bool mub) ∧ w'.cell? ⟨w5.heap.size, 4, none⟩ = some (.slice mua mun muc) ∧ w'.cell? ⟨w5.heap.size, 5, none⟩ = some (.slice muh mum mug) ∧ w'.cell? ⟨w.heap.size + 1 + 1, 0, none⟩ = some (.bool zb) ∧ w'.cell? ⟨w.heap.size + 1 + 1, 1, none⟩ = some (.slice za zn zc) ∧ w'.cell? ⟨w.heap.size + 1 + 1, 2, none⟩ = some (.slice zh zm zg)) (first | with_reducible exact ⟨cBI_17_0, cBI_17_1, cBI_17_2, cBI_17_3, cBI_17_4, cBI_17_5, cBZ_17_0, cBZ_17_1, cBZ_17_2⟩ | with_reducible exact ⟨cBI_16_0, cBI_16_1, cBI_16_2, cBI_16_3, cBI_16_4, cBI_16_5, cBZ_16_0, cBZ_16_1, cBZ_16_2⟩ | with_reducible exact ⟨cBI_15_0, cBI_15_1, cBI_15_2, cBI_15_3, cBI_15_4, cBI_15_5, cBZ_15_0, cBZ_15_1, cBZ_15_2⟩ | with_reducible exact ⟨cBI_14_0, cBI_14_1, cBI_14_2, cBI_14_3, cBI_14_4, cBI_14_5, cBZ_14_0, cBZ_14_1, cBZ_14_2⟩ | go_keep)
    (first
      | (go_at_call 24; ((with_reducible refine Calls.mono (RC.out _ _ M_16.out ZQ_16.out) ?_); rintro e w17 ⟨rfl, k17⟩; have BX_17 := Lib.hid (BX_16.out.keep k17); have BY_17 := Lib.hid (BY_16.out.keep k17); have BZ_17 := Lib.hid (BZ_16.out.keep k17); have X1_17 := Lib.hid (X1_16.out.keep k17); have X2_17 := Lib.hid (X2_16.out.keep k17); have Y1_17 := Lib.hid (Y1_16.out.keep k17); have Y2_17 := Lib.hid (Y2_16.out.keep k17); have T_17 := Lib.hid (T_16.out.keep k17); have XQ_17 := Lib.hid (XQ_16.out.keep k17); have YQ_17 := Lib.hid (YQ_16.out.keep k17); have ZQ_17 := Lib.hid (ZQ_16.out.keep k17); have M_17 := Lib.hid (M_16.out.keep k17); have BI_17 := Lib.hid (BI_16.out.keep k17); have N_17 := Lib.hid (N_16.out.keep k17); have BJ_17 := Lib.hid (BJ_16.out.keep k17); have BW_17 := Lib.hid (BW_16.out.keep k17); have KW_17 := Lib.hid (KW_16.out.trans k17); obtain ⟨cBI_17_0, cBI_17_1, cBI_17_2, cBI_17_3, cBI_17_4, cBI_17_5, -, -, -, -, -, -⟩ := BI_17.out.c6; obtain ⟨cBZ_17_0, cBZ_17_1, cBZ_17_2, -, -, -⟩ := BZ_17.out.c3; clear k17))
      | (go_at_call 23; ((with_reducible refine Calls.mono (CO.out _ _ M_15.out ZQ_15.out) ?_); rintro e w16 ⟨rfl, k16⟩; have BX_16 := Lib.hid (BX_15.out.keep k16); have BY_16 := Lib.hid (BY_15.out.keep k16); have BZ_16 := Lib.hid (BZ_15.out.keep k16); have X1_16 := Lib.hid (X1_15.out.keep k16); have X2_16 := Lib.hid (X2_15.out.keep k16); have Y1_16 := Lib.hid (Y1_15.out.keep k16); have Y2_16 := Lib.hid (Y2_15.out.keep k16); have T_16 := Lib.hid (T_15.out.keep k16); have XQ_16 := Lib.hid (XQ_15.out.keep k16); have YQ_16 := Lib.hid (YQ_15.out.keep k16); have ZQ_16 := Lib.hid (ZQ_15.out.keep k16); have M_16 := Lib.hid (M_15.out.keep k16); have BI_16 := Lib.hid (BI_15.out.keep k16); have N_16 := Lib.hid (N_15.out.keep k16); have BJ_16 := Lib.hid (BJ_15.out.keep k16); have BW_16 := Lib.hid (BW_15.out.keep k16); have KW_16 := Lib.hid (KW_15.out.trans k16); obtain ⟨cBI_16_0, cBI_16_1, cBI_16_2, cBI_16_3, cBI_16_4, cBI_16_5, -, -, -, -, -, -⟩ := BI_16.out.c6; obtain ⟨cBZ_16_0, cBZ_16_1, cBZ_16_2, -, -, -⟩ := BZ_16.out.c3; clear k16))
      | (go_at_call 21; ((with_reducible refine Calls.mono (VI.out _ _ M_14.out T_14.out) ?_); rintro e w15 ⟨rfl, k15⟩; have BX_15 := Lib.hid (BX_14.out.keep k15); have BY_15 := Lib.hid (BY_14.out.keep k15); have BZ_15 := Lib.hid (BZ_14.out.keep k15); have X1_15 := Lib.hid (X1_14.out.keep k15); have X2_15 := Lib.hid (X2_14.out.keep k15); have Y1_15 := Lib.hid (Y1_14.out.keep k15); have Y2_15 := Lib.hid (Y2_14.out.keep k15); have T_15 := Lib.hid (T_14.out.keep k15); have XQ_15 := Lib.hid (XQ_14.out.keep k15); have YQ_15 := Lib.hid (YQ_14.out.keep k15); have ZQ_15 := Lib.hid (ZQ_14.out.keep k15); have M_15 := Lib.hid (M_14.out.keep k15); have BI_15 := Lib.hid (BI_14.out.keep k15); have N_15 := Lib.hid (N_14.out.keep k15); have BJ_15 := Lib.hid (BJ_14.out.keep k15); have BW_15 := Lib.hid (BW_14.out.keep k15); have KW_15 := Lib.hid (KW_14.out.trans k15); obtain ⟨cBI_15_0, cBI_15_1, cBI_15_2, cBI_15_3, cBI_15_4, cBI_15_5, -, -, -, -, -, -⟩ := BI_15.out.c6; obtain ⟨cBZ_15_0, cBZ_15_1, cBZ_15_2, -, -, -⟩ := BZ_15.out.c3; clear k15)))
  clear cBI_17_0 cBI_17_1 cBI_17_2 cBI_17_3 cBI_17_4 cBI_17_5 cBZ_17_0 cBZ_17_1 cBZ_17_2 cBI_16_0 cBI_16_1 cBI_16_2 cBI_16_3 cBI_16_4 cBI_16_5 cBZ_16_0 cBZ_16_1 cBZ_16_2 cBI_15_0 cBI_15_1 cBI_15_2 cBI_15_3 cBI_15_4 cBI_15_5 cBZ_15_0 cBZ_15_1 cBZ_15_2 cBI_14_0 cBI_14_1 cBI_14_2 cBI_14_3 cBI_14_4 cBI_14_5 cBZ_14_0 cBZ_14_1 cBZ_14_2
  all_goals
    go_wp2_with fail
    go_ret
    exact ⟨rfl, KW_17.out⟩
set_option maxHeartbeats 8000000 in
theorem make_law_s1 {w : World} {xb : Bool} {xa xh : Option Addr} {xn xc xm xg : Nat} {x1 x2 : List Nat} (hx1 : Rd w xa xn xc x1) (hx2 : Rd w xh xm xg x2) {yb : Bool} {ya yh : Option Addr} {yn yc ym yg : Nat} {y1 y2 : List Nat} (hy1 : Rd w ya yn yc y1) (hy2 : Rd w yh ym yg y2) {zb : Bool} {za zh : Option Addr} {zn zc zm zg : Nat} {z1 z2 : List Nat} (hz1 : Rd w za zn zc z1) (hz2 : Rd w zh zm zg z2) (hT : Tab w) (ex : decide (xn ≤ 2 ∧ xm ≤ 2) = true) (ey : decide (yn ≤ 2 ∧ ym ≤ 2) = true) (ez : decide (zn ≤ 2 ∧ zm ≤ 2) = true) (hc : 0 < rC (rv xb (nv x1) (nv x2)) (rv yb (nv y1) (nv y2))) : Calls Tryd.prog 4 #[.agg #[.bool xb, .slice xa xn xc, .slice xh xm xg], .agg #[.bool yb, .slice ya yn yc, .slice yh ym yg], .agg #[.bool zb, .slice za zn zc, .slice zh zm zg]] w (BPost true w) := by
  have KW_0 := Lib.hid (show Keep w (((w.alloc (.cells #[.bool xb, .slice xa xn xc, .slice xh xm xg] 32)).alloc (.cells #[.bool yb, .slice ya yn yc, .slice yh ym yg] 32)).alloc (.cells #[.bool zb, .slice za zn zc, .slice zh zm zg] 32)) from (Keep.alloc (Keep.alloc (Keep.alloc (Keep.refl _) _) _) _))
  have BX_0 := Lib.hid (show Bx (w.heap.size) [.bool xb, .slice xa xn xc, .slice xh xm xg] (((w.alloc (.cells #[.bool xb, .slice xa xn xc, .slice xh xm xg] 32)).alloc (.cells #[.bool yb, .slice ya yn yc, .slice yh ym yg] 32)).alloc (.cells #[.bool zb, .slice za zn zc, .slice zh zm zg] 32)) from ((Bx.new w 32 (.b _ (.s _ _ _ (.s _ _ _ .nil)))).at (g' := w.heap.size) (by simp)).keep (Keep.alloc (Keep.alloc (Keep.refl _) _) _))
  have BY_0 := Lib.hid (show Bx (w.heap.size + 1) [.bool yb, .slice ya yn yc, .slice yh ym yg] (((w.alloc (.cells #[.bool xb, .slice xa xn xc, .slice xh xm xg] 32)).alloc (.cells #[.bool yb, .slice ya yn yc, .slice yh ym yg] 32)).alloc (.cells #[.bool zb, .slice za zn zc, .slice zh zm zg] 32)) from ((Bx.new (w.alloc (.cells #[.bool xb, .slice xa xn xc, .slice xh xm xg] 32)) 32 (.b _ (.s _ _ _ (.s _ _ _ .nil)))).at (g' := w.heap.size + 1) (by simp)).keep (Keep.alloc (Keep.refl _) _))
  have BZ_0 := Lib.hid (show Bx (w.heap.size + 1 + 1) [.bool zb, .slice za zn zc, .slice zh zm zg] (((w.alloc (.cells #[.bool xb, .slice xa xn xc, .slice xh xm xg] 32)).alloc (.cells #[.bool yb, .slice ya yn yc, .slice yh ym yg] 32)).alloc (.cells #[.bool zb, .slice za zn zc, .slice zh zm zg] 32)) from ((Bx.new ((w.alloc (.cells #[.bool xb, .slice xa xn xc, .slice xh xm xg] 32)).alloc (.cells #[.bool yb, .slice ya yn yc, .slice yh ym yg] 32)) 32 (.b _ (.s _ _ _ (.s _ _ _ .nil)))).at (g' := w.heap.size + 1 + 1) (by simp)).keep (Keep.refl _))
  have X1_0 := Lib.hid (hx1.below KW_0.out)
  have X2_0 := Lib.hid (hx2.below KW_0.out)
  have Y1_0 := Lib.hid (hy1.below KW_0.out)
  have Y2_0 := Lib.hid (hy2.below KW_0.out)
  have T_0 := Lib.hid (hT.keep KW_0.out)
  have AW := Lib.hid (fun w1 (hT1 : Tab w1) => awake6_c w1 hT1)
  have Sx := Lib.hid (fun w1 => short_c (w := w1) (xb := xb) (xa := xa) (xn := xn) (xc := xc) (xh := xh) (xm := xm) (xg := xg))
  rw [ex] at Sx
  have Sy := Lib.hid (fun w1 => short_c (w := w1) (xb := yb) (xa := ya) (xn := yn) (xc := yc) (xh := yh) (xm := ym) (xg := yg))
  rw [ey] at Sy
  have Sz := Lib.hid (fun w1 => short_c (w := w1) (xb := zb) (xa := za) (xn := zn) (xc := zc) (xh := zh) (xm := zm) (xg := zg))
  rw [ez] at Sz
  have hjx := of_decide_eq_true ex
  have jx1 : x1.length ≤ 2 := by rw [hx1.len_eq]; exact hjx.1
  have jx2 : x2.length ≤ 2 := by rw [hx2.len_eq]; exact hjx.2
  have hrx := rdRa (s := xb) hx1 hx2 jx1 jx2
  obtain ⟨p, hqx⟩ : ∃ z, rv xb (nv x1) (nv x2) = z := ⟨_, rfl⟩
  rw [hqx] at hrx hc
  have XQ_0 := Lib.hid (hrx.keep KW_0.out)
  have rbp := hrx.rb (by omega)
  clear hqx hjx
  have hjy := of_decide_eq_true ey
  have jy1 : y1.length ≤ 2 := by rw [hy1.len_eq]; exact hjy.1
  have jy2 : y2.length ≤ 2 := by rw [hy2.len_eq]; exact hjy.2
  have hry := rdRa (s := yb) hy1 hy2 jy1 jy2
  obtain ⟨q, hqy⟩ : ∃ z, rv yb (nv y1) (nv y2) = z := ⟨_, rfl⟩
  rw [hqy] at hry hc
  have YQ_0 := Lib.hid (hry.keep KW_0.out)
  have rbq := hry.rb (by omega)
  clear hqy hjy
  have hjz := of_decide_eq_true ez
  have jz1 : z1.length ≤ 2 := by rw [hz1.len_eq]; exact hjz.1
  have jz2 : z2.length ≤ 2 := by rw [hz2.len_eq]; exact hjz.2
  have hrz := rdRa (s := zb) hz1 hz2 jz1 jz2
  obtain ⟨r, hqz⟩ : ∃ z, rv zb (nv z1) (nv z2) = z := ⟨_, rfl⟩
  rw [hqz] at hrz
  have ZQ_0 := Lib.hid (hrz.keep KW_0.out)
  have rbr := hrz.rb (by omega)
  clear hqz hjz
  have MK := Lib.hid (fun w1 (h : Ra w1 (.agg #[.bool xb, .slice xa xn xc, .slice xh xm xg]) p 2) (h' : Ra w1 (.agg #[.bool yb, .slice ya yn yc, .slice yh ym yg]) q 2) (hT1 : Tab w1) => imake_1 h h' (by omega) (by omega) hT1 hc)
  have RK := Lib.hid (fun w1 (h : Ra w1 (.agg #[.bool xb, .slice xa xn xc, .slice xh xm xg]) p 2) (h' : Ra w1 (.agg #[.bool yb, .slice ya yn yc, .slice yh ym yg]) q 2) => rimake_1 h h' (by omega) (by omega) hc)
  have VA := Lib.hid (fun w1 (h1 : Rd w1 xa xn xc x1) (h2 : Rd w1 xh xm xg x2) (h3 : Rd w1 ya yn yc y1) (h4 : Rd w1 yh ym yg y2) (hT1 : Tab w1) => ivalid_c (w := w1) (xlb := xb) (xub := yb) h1 h2 h3 h4 jx1 jx2 jy1 jy2 (by omega) (by omega) hT1)
  have RV := Lib.hid (fun w1 (h1 : Rd w1 xa xn xc x1) (h2 : Rd w1 xh xm xg x2) (h3 : Rd w1 ya yn yc y1) (h4 : Rd w1 yh ym yg y2) => rivalid_c (w := w1) (xlb := xb) (xub := yb) h1 h2 h3 h4 jx1 jx2 jy1 jy2 (by omega) (by omega))
  obtain ⟨b, hb⟩ : ∃ b, validI xb x1 x2 yb y1 y2 = b := ⟨_, rfl⟩
  rw [hb] at VA RV
  clear hb hc hT hrx hry hrz rbp rbq rbr ex ey ez jx1 jx2 jy1 jy2 jz1 jz2 hx1 hx2 hy1 hy2 hz1 hz2
  go_enter Tryd.func4, Tryd.ntmps4
  obtain ⟨BX_c0, BX_c1, BX_c2, -, -, -⟩ := BX_0.out.c3
  obtain ⟨BY_c0, BY_c1, BY_c2, -, -, -⟩ := BY_0.out.c3
  obtain ⟨BZ_c0, BZ_c1, BZ_c2, -, -, -⟩ := BZ_0.out.c3
  go_wp2_with fail
  refine Calls.mono (AW.out _ T_0.out) ?_
  rintro e w1 ⟨rfl, k1⟩
  clear BX_c0 BX_c1 BX_c2 BY_c0 BY_c1 BY_c2 BZ_c0 BZ_c1 BZ_c2
  have BX_1 := Lib.hid (BX_0.out.keep k1)
  have BY_1 := Lib.hid (BY_0.out.keep k1)
  have BZ_1 := Lib.hid (BZ_0.out.keep k1)
  have X1_1 := Lib.hid (X1_0.out.keep k1)
  have X2_1 := Lib.hid (X2_0.out.keep k1)
  have Y1_1 := Lib.hid (Y1_0.out.keep k1)
  have Y2_1 := Lib.hid (Y2_0.out.keep k1)
  have T_1 := Lib.hid (T_0.out.keep k1)
  have XQ_1 := Lib.hid (XQ_0.out.keep k1)
  have YQ_1 := Lib.hid (YQ_0.out.keep k1)
  have ZQ_1 := Lib.hid (ZQ_0.out.keep k1)
  have KW_1 := Lib.hid (KW_0.out.trans k1)
  clear k1 BX_0 BY_0 BZ_0 X1_0 X2_0 Y1_0 Y2_0 T_0 XQ_0 YQ_0 ZQ_0 KW_0
  obtain ⟨BX_c0, BX_c1, BX_c2, -, -, -⟩ := BX_1.out.c3
  obtain ⟨BY_c0, BY_c1, BY_c2, -, -, -⟩ := BY_1.out.c3
  obtain ⟨BZ_c0, BZ_c1, BZ_c2, -, -, -⟩ := BZ_1.out.c3
  go_wp2_with fail
  refine Calls.mono (Sx.out _) ?_
  rintro e w2 ⟨rfl, k2⟩
  clear BX_c0 BX_c1 BX_c2 BY_c0 BY_c1 BY_c2 BZ_c0 BZ_c1 BZ_c2
  have BX_2 := Lib.hid (BX_1.out.keep k2)
  have BY_2 := Lib.hid (BY_1.out.keep k2)
  have BZ_2 := Lib.hid (BZ_1.out.keep k2)
  have X1_2 := Lib.hid (X1_1.out.keep k2)
  have X2_2 := Lib.hid (X2_1.out.keep k2)
  have Y1_2 := Lib.hid (Y1_1.out.keep k2)
  have Y2_2 := Lib.hid (Y2_1.out.keep k2)
  have T_2 := Lib.hid (T_1.out.keep k2)
  have XQ_2 := Lib.hid (XQ_1.out.keep k2)
  have YQ_2 := Lib.hid (YQ_1.out.keep k2)
  have ZQ_2 := Lib.hid (ZQ_1.out.keep k2)
  have KW_2 := Lib.hid (KW_1.out.trans k2)
  clear k2 BX_1 BY_1 BZ_1 X1_1 X2_1 Y1_1 Y2_1 T_1 XQ_1 YQ_1 ZQ_1 KW_1
  obtain ⟨BX_c0, BX_c1, BX_c2, -, -, -⟩ := BX_2.out.c3
  obtain ⟨BY_c0, BY_c1, BY_c2, -, -, -⟩ := BY_2.out.c3
  obtain ⟨BZ_c0, BZ_c1, BZ_c2, -, -, -⟩ := BZ_2.out.c3
  go_wp2_with fail
  refine Calls.mono (Sy.out _) ?_
  rintro e w3 ⟨rfl, k3⟩
  clear BX_c0 BX_c1 BX_c2 BY_c0 BY_c1 BY_c2 BZ_c0 BZ_c1 BZ_c2
  have BX_3 := Lib.hid (BX_2.out.keep k3)
  have BY_3 := Lib.hid (BY_2.out.keep k3)
  have BZ_3 := Lib.hid (BZ_2.out.keep k3)
  have X1_3 := Lib.hid (X1_2.out.keep k3)
  have X2_3 := Lib.hid (X2_2.out.keep k3)
  have Y1_3 := Lib.hid (Y1_2.out.keep k3)
  have Y2_3 := Lib.hid (Y2_2.out.keep k3)
  have T_3 := Lib.hid (T_2.out.keep k3)
  have XQ_3 := Lib.hid (XQ_2.out.keep k3)
  have YQ_3 := Lib.hid (YQ_2.out.keep k3)
  have ZQ_3 := Lib.hid (ZQ_2.out.keep k3)
  have KW_3 := Lib.hid (KW_2.out.trans k3)
  clear k3 BX_2 BY_2 BZ_2 X1_2 X2_2 Y1_2 Y2_2 T_2 XQ_2 YQ_2 ZQ_2 KW_2
  obtain ⟨BX_c0, BX_c1, BX_c2, -, -, -⟩ := BX_3.out.c3
  obtain ⟨BY_c0, BY_c1, BY_c2, -, -, -⟩ := BY_3.out.c3
  obtain ⟨BZ_c0, BZ_c1, BZ_c2, -, -, -⟩ := BZ_3.out.c3
  go_wp2_with fail
  refine Calls.mono (Sz.out _) ?_
  rintro e w4 ⟨rfl, k4⟩
  clear BX_c0 BX_c1 BX_c2 BY_c0 BY_c1 BY_c2 BZ_c0 BZ_c1 BZ_c2
  have BX_4 := Lib.hid (BX_3.out.keep k4)
  have BY_4 := Lib.hid (BY_3.out.keep k4)
  have BZ_4 := Lib.hid (BZ_3.out.keep k4)
  have X1_4 := Lib.hid (X1_3.out.keep k4)
  have X2_4 := Lib.hid (X2_3.out.keep k4)
  have Y1_4 := Lib.hid (Y1_3.out.keep k4)
  have Y2_4 := Lib.hid (Y2_3.out.keep k4)
  have T_4 := Lib.hid (T_3.out.keep k4)
  have XQ_4 := Lib.hid (XQ_3.out.keep k4)
  have YQ_4 := Lib.hid (YQ_3.out.keep k4)
  have ZQ_4 := Lib.hid (ZQ_3.out.keep k4)
  have KW_4 := Lib.hid (KW_3.out.trans k4)
  clear k4 BX_3 BY_3 BZ_3 X1_3 X2_3 Y1_3 Y2_3 T_3 XQ_3 YQ_3 ZQ_3 KW_3
  clear AW Sx Sy Sz
  obtain ⟨BX_c0, BX_c1, BX_c2, -, -, -⟩ := BX_4.out.c3
  obtain ⟨BY_c0, BY_c1, BY_c2, -, -, -⟩ := BY_4.out.c3
  obtain ⟨BZ_c0, BZ_c1, BZ_c2, -, -, -⟩ := BZ_4.out.c3
  go_wp2_with fail
  refine Calls.mono (MK.out _ XQ_4.out YQ_4.out T_4.out) ?_
  rintro e w5 ⟨um, rfl, hM, k5⟩
  clear BX_c0 BX_c1 BX_c2 BY_c0 BY_c1 BY_c2 BZ_c0 BZ_c1 BZ_c2
  have BX_5 := Lib.hid (BX_4.out.keep k5)
  have BY_5 := Lib.hid (BY_4.out.keep k5)
  have BZ_5 := Lib.hid (BZ_4.out.keep k5)
  have X1_5 := Lib.hid (X1_4.out.keep k5)
  have X2_5 := Lib.hid (X2_4.out.keep k5)
  have Y1_5 := Lib.hid (Y1_4.out.keep k5)
  have Y2_5 := Lib.hid (Y2_4.out.keep k5)
  have T_5 := Lib.hid (T_4.out.keep k5)
  have XQ_5 := Lib.hid (XQ_4.out.keep k5)
  have YQ_5 := Lib.hid (YQ_4.out.keep k5)
  have ZQ_5 := Lib.hid (ZQ_4.out.keep k5)
  have M0_5 := Lib.hid hM
  have KW_5 := Lib.hid (KW_4.out.trans k5)
  clear k5 BX_4 BY_4 BZ_4 X1_4 X2_4 Y1_4 Y2_4 T_4 XQ_4 YQ_4 ZQ_4 hM KW_4
  obtain ⟨mlb, mla, mln, mlc, mlh, mlm, mlg, mub, mua, mun, muc, muh, mum, mug, rfl, hM2⟩ := ICr.fv M0_5.out
  have M_5 := Lib.hid hM2
  clear hM2 M0_5
  have BX_6 := Lib.hid (BX_5.out.keep (Keep.alloc (Keep.refl _) (.cells #[.bool mlb, .slice mla mln mlc, .slice mlh mlm mlg, .bool mub, .slice mua mun muc, .slice muh mum mug] 35)))
  have BY_6 := Lib.hid (BY_5.out.keep (Keep.alloc (Keep.refl _) (.cells #[.bool mlb, .slice mla mln mlc, .slice mlh mlm mlg, .bool mub, .slice mua mun muc, .slice muh mum mug] 35)))
  have BZ_6 := Lib.hid (BZ_5.out.keep (Keep.alloc (Keep.refl _) (.cells #[.bool mlb, .slice mla mln mlc, .slice mlh mlm mlg, .bool mub, .slice mua mun muc, .slice muh mum mug] 35)))
  have X1_6 := Lib.hid (X1_5.out.keep (Keep.alloc (Keep.refl _) (.cells #[.bool mlb, .slice mla mln mlc, .slice mlh mlm mlg, .bool mub, .slice mua mun muc, .slice muh mum mug] 35)))
  have X2_6 := Lib.hid (X2_5.out.keep (Keep.alloc (Keep.refl _) (.cells #[.bool mlb, .slice mla mln mlc, .slice mlh mlm mlg, .bool mub, .slice mua mun muc, .slice muh mum mug] 35)))
  have Y1_6 := Lib.hid (Y1_5.out.keep (Keep.alloc (Keep.refl _) (.cells #[.bool mlb, .slice mla mln mlc, .slice mlh mlm mlg, .bool mub, .slice mua mun muc, .slice muh mum mug] 35)))
  have Y2_6 := Lib.hid (Y2_5.out.keep (Keep.alloc (Keep.refl _) (.cells #[.bool mlb, .slice mla mln mlc, .slice mlh mlm mlg, .bool mub, .slice mua mun muc, .slice muh mum mug] 35)))
  have T_6 := Lib.hid (T_5.out.keep (Keep.alloc (Keep.refl _) (.cells #[.bool mlb, .slice mla mln mlc, .slice mlh mlm mlg, .bool mub, .slice mua mun muc, .slice muh mum mug] 35)))
  have XQ_6 := Lib.hid (XQ_5.out.keep (Keep.alloc (Keep.refl _) (.cells #[.bool mlb, .slice mla mln mlc, .slice mlh mlm mlg, .bool mub, .slice mua mun muc, .slice muh mum mug] 35)))
  have YQ_6 := Lib.hid (YQ_5.out.keep (Keep.alloc (Keep.refl _) (.cells #[.bool mlb, .slice mla mln mlc, .slice mlh mlm mlg, .bool mub, .slice mua mun muc, .slice muh mum mug] 35)))
  have ZQ_6 := Lib.hid (ZQ_5.out.keep (Keep.alloc (Keep.refl _) (.cells #[.bool mlb, .slice mla mln mlc, .slice mlh mlm mlg, .bool mub, .slice mua mun muc, .slice muh mum mug] 35)))
  have M_6 := Lib.hid (M_5.out.keep (Keep.alloc (Keep.refl _) (.cells #[.bool mlb, .slice mla mln mlc, .slice mlh mlm mlg, .bool mub, .slice mua mun muc, .slice muh mum mug] 35)))
  have KW_6 := Lib.hid (KW_5.out.trans (Keep.alloc (Keep.refl _) (.cells #[.bool mlb, .slice mla mln mlc, .slice mlh mlm mlg, .bool mub, .slice mua mun muc, .slice muh mum mug] 35)))
  have BI_6 := Lib.hid (show Bx w5.heap.size [.bool mlb, .slice mla mln mlc, .slice mlh mlm mlg, .bool mub, .slice mua mun muc, .slice muh mum mug] (w5.alloc (.cells #[.bool mlb, .slice mla mln mlc, .slice mlh mlm mlg, .bool mub, .slice mua mun muc, .slice muh mum mug] 35)) from Bx.new w5 35 (.b _ (.s _ _ _ (.s _ _ _ (.b _ (.s _ _ _ (.s _ _ _ .nil)))))))
  clear BX_5 BY_5 BZ_5 X1_5 X2_5 Y1_5 Y2_5 T_5 XQ_5 YQ_5 ZQ_5 M_5 KW_5
  obtain ⟨BX_c0, BX_c1, BX_c2, -, -, -⟩ := BX_6.out.c3
  obtain ⟨BY_c0, BY_c1, BY_c2, -, -, -⟩ := BY_6.out.c3
  obtain ⟨BZ_c0, BZ_c1, BZ_c2, -, -, -⟩ := BZ_6.out.c3
  obtain ⟨BI_c0, BI_c1, BI_c2, BI_c3, BI_c4, BI_c5, -, -, -, -, -, -⟩ := BI_6.out.c6
  go_wp2_with fail
  refine Calls.mono (RK.out _ XQ_6.out YQ_6.out) ?_
  rintro e w7 ⟨un, rfl, hN, k7⟩
  clear BX_c0 BX_c1 BX_c2 BY_c0 BY_c1 BY_c2 BZ_c0 BZ_c1 BZ_c2 BI_c0 BI_c1 BI_c2 BI_c3 BI_c4 BI_c5
  have BX_7 := Lib.hid (BX_6.out.keep k7)
  have BY_7 := Lib.hid (BY_6.out.keep k7)
  have BZ_7 := Lib.hid (BZ_6.out.keep k7)
  have X1_7 := Lib.hid (X1_6.out.keep k7)
  have X2_7 := Lib.hid (X2_6.out.keep k7)
  have Y1_7 := Lib.hid (Y1_6.out.keep k7)
  have Y2_7 := Lib.hid (Y2_6.out.keep k7)
  have T_7 := Lib.hid (T_6.out.keep k7)
  have XQ_7 := Lib.hid (XQ_6.out.keep k7)
  have YQ_7 := Lib.hid (YQ_6.out.keep k7)
  have ZQ_7 := Lib.hid (ZQ_6.out.keep k7)
  have M_7 := Lib.hid (M_6.out.keep k7)
  have BI_7 := Lib.hid (BI_6.out.keep k7)
  have N0_7 := Lib.hid hN
  have KW_7 := Lib.hid (KW_6.out.trans k7)
  clear k7 BX_6 BY_6 BZ_6 X1_6 X2_6 Y1_6 Y2_6 T_6 XQ_6 YQ_6 ZQ_6 M_6 BI_6 hN KW_6
  obtain ⟨nlb, nla, nln, nlc, nlh, nlm, nlg, nub, nua, nun, nuc, nuh, num, nug, rfl, hN2⟩ := ICr.fv N0_7.out
  have N_7 := Lib.hid hN2
  clear hN2 N0_7
  have BX_8 := Lib.hid (BX_7.out.keep (Keep.alloc (Keep.refl _) (.cells #[.bool nlb, .slice nla nln nlc, .slice nlh nlm nlg, .bool nub, .slice nua nun nuc, .slice nuh num nug] 35)))
  have BY_8 := Lib.hid (BY_7.out.keep (Keep.alloc (Keep.refl _) (.cells #[.bool nlb, .slice nla nln nlc, .slice nlh nlm nlg, .bool nub, .slice nua nun nuc, .slice nuh num nug] 35)))
  have BZ_8 := Lib.hid (BZ_7.out.keep (Keep.alloc (Keep.refl _) (.cells #[.bool nlb, .slice nla nln nlc, .slice nlh nlm nlg, .bool nub, .slice nua nun nuc, .slice nuh num nug] 35)))
  have X1_8 := Lib.hid (X1_7.out.keep (Keep.alloc (Keep.refl _) (.cells #[.bool nlb, .slice nla nln nlc, .slice nlh nlm nlg, .bool nub, .slice nua nun nuc, .slice nuh num nug] 35)))
  have X2_8 := Lib.hid (X2_7.out.keep (Keep.alloc (Keep.refl _) (.cells #[.bool nlb, .slice nla nln nlc, .slice nlh nlm nlg, .bool nub, .slice nua nun nuc, .slice nuh num nug] 35)))
  have Y1_8 := Lib.hid (Y1_7.out.keep (Keep.alloc (Keep.refl _) (.cells #[.bool nlb, .slice nla nln nlc, .slice nlh nlm nlg, .bool nub, .slice nua nun nuc, .slice nuh num nug] 35)))
  have Y2_8 := Lib.hid (Y2_7.out.keep (Keep.alloc (Keep.refl _) (.cells #[.bool nlb, .slice nla nln nlc, .slice nlh nlm nlg, .bool nub, .slice nua nun nuc, .slice nuh num nug] 35)))
  have T_8 := Lib.hid (T_7.out.keep (Keep.alloc (Keep.refl _) (.cells #[.bool nlb, .slice nla nln nlc, .slice nlh nlm nlg, .bool nub, .slice nua nun nuc, .slice nuh num nug] 35)))
  have XQ_8 := Lib.hid (XQ_7.out.keep (Keep.alloc (Keep.refl _) (.cells #[.bool nlb, .slice nla nln nlc, .slice nlh nlm nlg, .bool nub, .slice nua nun nuc, .slice nuh num nug] 35)))
  have YQ_8 := Lib.hid (YQ_7.out.keep (Keep.alloc (Keep.refl _) (.cells #[.bool nlb, .slice nla nln nlc, .slice nlh nlm nlg, .bool nub, .slice nua nun nuc, .slice nuh num nug] 35)))
  have ZQ_8 := Lib.hid (ZQ_7.out.keep (Keep.alloc (Keep.refl _) (.cells #[.bool nlb, .slice nla nln nlc, .slice nlh nlm nlg, .bool nub, .slice nua nun nuc, .slice nuh num nug] 35)))
  have M_8 := Lib.hid (M_7.out.keep (Keep.alloc (Keep.refl _) (.cells #[.bool nlb, .slice nla nln nlc, .slice nlh nlm nlg, .bool nub, .slice nua nun nuc, .slice nuh num nug] 35)))
  have BI_8 := Lib.hid (BI_7.out.keep (Keep.alloc (Keep.refl _) (.cells #[.bool nlb, .slice nla nln nlc, .slice nlh nlm nlg, .bool nub, .slice nua nun nuc, .slice nuh num nug] 35)))
  have N_8 := Lib.hid (N_7.out.keep (Keep.alloc (Keep.refl _) (.cells #[.bool nlb, .slice nla nln nlc, .slice nlh nlm nlg, .bool nub, .slice nua nun nuc, .slice nuh num nug] 35)))
  have KW_8 := Lib.hid (KW_7.out.trans (Keep.alloc (Keep.refl _) (.cells #[.bool nlb, .slice nla nln nlc, .slice nlh nlm nlg, .bool nub, .slice nua nun nuc, .slice nuh num nug] 35)))
  have BJ_8 := Lib.hid (show Bx w7.heap.size [.bool nlb, .slice nla nln nlc, .slice nlh nlm nlg, .bool nub, .slice nua nun nuc, .slice nuh num nug] (w7.alloc (.cells #[.bool nlb, .slice nla nln nlc, .slice nlh nlm nlg, .bool nub, .slice nua nun nuc, .slice nuh num nug] 35)) from Bx.new w7 35 (.b _ (.s _ _ _ (.s _ _ _ (.b _ (.s _ _ _ (.s _ _ _ .nil)))))))
  clear BX_7 BY_7 BZ_7 X1_7 X2_7 Y1_7 Y2_7 T_7 XQ_7 YQ_7 ZQ_7 M_7 BI_7 N_7 KW_7
  clear MK RK
  obtain ⟨pBX0, pBX1, pBX2, -, -, -⟩ := BX_8.out.c3
  obtain ⟨pBY0, pBY1, pBY2, -, -, -⟩ := BY_8.out.c3
  have BX_9 := Lib.hid (BX_8.out.keep (Keep.alloc (Keep.refl _) (.cells #[.bool xb, .slice xa xn xc, .slice xh xm xg, .bool yb, .slice ya yn yc, .slice yh ym yg] 35)))
  have BY_9 := Lib.hid (BY_8.out.keep (Keep.alloc (Keep.refl _) (.cells #[.bool xb, .slice xa xn xc, .slice xh xm xg, .bool yb, .slice ya yn yc, .slice yh ym yg] 35)))
  have BZ_9 := Lib.hid (BZ_8.out.keep (Keep.alloc (Keep.refl _) (.cells #[.bool xb, .slice xa xn xc, .slice xh xm xg, .bool yb, .slice ya yn yc, .slice yh ym yg] 35)))
  have X1_9 := Lib.hid (X1_8.out.keep (Keep.alloc (Keep.refl _) (.cells #[.bool xb, .slice xa xn xc, .slice xh xm xg, .bool yb, .slice ya yn yc, .slice yh ym yg] 35)))
  have X2_9 := Lib.hid (X2_8.out.keep (Keep.alloc (Keep.refl _) (.cells #[.bool xb, .slice xa xn xc, .slice xh xm xg, .bool yb, .slice ya yn yc, .slice yh ym yg] 35)))
  have Y1_9 := Lib.hid (Y1_8.out.keep (Keep.alloc (Keep.refl _) (.cells #[.bool xb, .slice xa xn xc, .slice xh xm xg, .bool yb, .slice ya yn yc, .slice yh ym yg] 35)))
  have Y2_9 := Lib.hid (Y2_8.out.keep (Keep.alloc (Keep.refl _) (.cells #[.bool xb, .slice xa xn xc, .slice xh xm xg, .bool yb, .slice ya yn yc, .slice yh ym yg] 35)))
  have T_9 := Lib.hid (T_8.out.keep (Keep.alloc (Keep.refl _) (.cells #[.bool xb, .slice xa xn xc, .slice xh xm xg, .bool yb, .slice ya yn yc, .slice yh ym yg] 35)))
  have XQ_9 := Lib.hid (XQ_8.out.keep (Keep.alloc (Keep.refl _) (.cells #[.bool xb, .slice xa xn xc, .slice xh xm xg, .bool yb, .slice ya yn yc, .slice yh ym yg] 35)))
  have YQ_9 := Lib.hid (YQ_8.out.keep (Keep.alloc (Keep.refl _) (.cells #[.bool xb, .slice xa xn xc, .slice xh xm xg, .bool yb, .slice ya yn yc, .slice yh ym yg] 35)))
  have ZQ_9 := Lib.hid (ZQ_8.out.keep (Keep.alloc (Keep.refl _) (.cells #[.bool xb, .slice xa xn xc, .slice xh xm xg, .bool yb, .slice ya yn yc, .slice yh ym yg] 35)))
  have M_9 := Lib.hid (M_8.out.keep (Keep.alloc (Keep.refl _) (.cells #[.bool xb, .slice xa xn xc, .slice xh xm xg, .bool yb, .slice ya yn yc, .slice yh ym yg] 35)))
  have BI_9 := Lib.hid (BI_8.out.keep (Keep.alloc (Keep.refl _) (.cells #[.bool xb, .slice xa xn xc, .slice xh xm xg, .bool yb, .slice ya yn yc, .slice yh ym yg] 35)))
  have N_9 := Lib.hid (N_8.out.keep (Keep.alloc (Keep.refl _) (.cells #[.bool xb, .slice xa xn xc, .slice xh xm xg, .bool yb, .slice ya yn yc, .slice yh ym yg] 35)))
  have BJ_9 := Lib.hid (BJ_8.out.keep (Keep.alloc (Keep.refl _) (.cells #[.bool xb, .slice xa xn xc, .slice xh xm xg, .bool yb, .slice ya yn yc, .slice yh ym yg] 35)))
  have KW_9 := Lib.hid (KW_8.out.trans (Keep.alloc (Keep.refl _) (.cells #[.bool xb, .slice xa xn xc, .slice xh xm xg, .bool yb, .slice ya yn yc, .slice yh ym yg] 35)))
  have BW_9 := Lib.hid (show Bx (w7.alloc (.cells #[.bool nlb, .slice nla nln nlc, .slice nlh nlm nlg, .bool nub, .slice nua nun nuc, .slice nuh num nug] 35)).heap.size [.bool xb, .slice xa xn xc, .slice xh xm xg, .bool yb, .slice ya yn yc, .slice yh ym yg] ((w7.alloc (.cells #[.bool nlb, .slice nla nln nlc, .slice nlh nlm nlg, .bool nub, .slice nua nun nuc, .slice nuh num nug] 35)).alloc (.cells #[.bool xb, .slice xa xn xc, .slice xh xm xg, .bool yb, .slice ya yn yc, .slice yh ym yg] 35)) from Bx.new (w7.alloc (.cells #[.bool nlb, .slice nla nln nlc, .slice nlh nlm nlg, .bool nub, .slice nua nun nuc, .slice nuh num nug] 35)) 35 (.b _ (.s _ _ _ (.s _ _ _ (.b _ (.s _ _ _ (.s _ _ _ .nil)))))))
  clear BX_8 BY_8 BZ_8 X1_8 X2_8 Y1_8 Y2_8 T_8 XQ_8 YQ_8 ZQ_8 M_8 BI_8 N_8 BJ_8 KW_8
  have BW2 := Lib.hid ((show Bx _ _ _ from BW_9.out).at (g' := w7.heap.size + 1) (by simp))
  clear BW_9
  have BW_9b := BW2
  clear BW2
  have BX_10 := Lib.hid (BX_9.out.keep (keep_drew _))
  clear BX_9
  have BY_10 := Lib.hid (BY_9.out.keep (keep_drew _))
  clear BY_9
  have BZ_10 := Lib.hid (BZ_9.out.keep (keep_drew _))
  clear BZ_9
  have X1_10 := Lib.hid (X1_9.out.keep (keep_drew _))
  clear X1_9
  have X2_10 := Lib.hid (X2_9.out.keep (keep_drew _))
  clear X2_9
  have Y1_10 := Lib.hid (Y1_9.out.keep (keep_drew _))
  clear Y1_9
  have Y2_10 := Lib.hid (Y2_9.out.keep (keep_drew _))
  clear Y2_9
  have T_10 := Lib.hid (T_9.out.keep (keep_drew _))
  clear T_9
  have XQ_10 := Lib.hid (XQ_9.out.keep (keep_drew _))
  clear XQ_9
  have YQ_10 := Lib.hid (YQ_9.out.keep (keep_drew _))
  clear YQ_9
  have ZQ_10 := Lib.hid (ZQ_9.out.keep (keep_drew _))
  clear ZQ_9
  have M_10 := Lib.hid (M_9.out.keep (keep_drew _))
  clear M_9
  have BI_10 := Lib.hid (BI_9.out.keep (keep_drew _))
  clear BI_9
  have N_10 := Lib.hid (N_9.out.keep (keep_drew _))
  clear N_9
  have BJ_10 := Lib.hid (BJ_9.out.keep (keep_drew _))
  clear BJ_9
  have BW_10 := Lib.hid (BW_9b.out.keep (keep_drew _))
  clear BW_9b
  have KW_10 := Lib.hid (KW_9.out.trans (keep_drew _))
  clear KW_9
  obtain ⟨cBI_10_0, cBI_10_1, cBI_10_2, cBI_10_3, cBI_10_4, cBI_10_5, -, -, -, -, -, -⟩ := BI_10.out.c6
  obtain ⟨cBJ_10_0, cBJ_10_1, cBJ_10_2, cBJ_10_3, cBJ_10_4, cBJ_10_5, -, -, -, -, -, -⟩ := BJ_10.out.c6
  obtain ⟨cBW_10_0, cBW_10_1, cBW_10_2, cBW_10_3, cBW_10_4, cBW_10_5, -, -, -, -, -, -⟩ := BW_10.out.c6
  go_wp2
  go_region_held3 (fun w' => w'.cell? ⟨w5.heap.size, 0, none⟩ = some (.bool mlb) ∧ w'.cell? ⟨w5.heap.size, 1, none⟩ = some (.slice mla mln mlc) ∧ w'.cell? ⟨w5.heap.size, 2, none⟩ = some (.slice mlh mlm mlg) ∧ w'.cell? ⟨w5.heap.size, 3, none⟩ = some (.bool mub) ∧ w'.cell? ⟨w5.heap.size, 4, none⟩ = some (.slice mua mun muc) ∧ w'.cell? ⟨w5.heap.size, 5, none⟩ = some (.slice muh mum mug) ∧ w'.cell? ⟨w7.heap.size, 0, none⟩ = some (.bool nlb) ∧ w'.cell? ⟨w7.heap.size, 1, none⟩ = some (.slice nla nln nlc) ∧ w'.cell? ⟨w7.heap.size, 2, none⟩ = some (.slice nlh nlm nlg) ∧ w'.cell? ⟨w7.heap.size, 3, none⟩ = some (.bool nub) ∧ w'.cell? ⟨w7.heap.size, 4, none⟩ = some (.slice nua nun nuc) ∧ w'.cell? ⟨w7.heap.size, 5, none⟩ = some (.slice nuh num nug) ∧ w'.cell? ⟨w7.heap.size + 1, 0, none⟩ = some (.bool xb) ∧ w'.cell? ⟨w7.heap.size + 1, 1, none⟩ = some (.slice xa xn xc) ∧ w'.cell? ⟨w7.heap.size + 1, 2, none⟩ = some (.slice xh xm xg) ∧ w'.cell? ⟨w7.heap.size + 1, 3, none⟩ = some (.bool yb) ∧ w'.cell? ⟨w7.heap.size + 1, 4, none⟩ = some (.slice ya yn yc) ∧ w'.cell? ⟨w7.heap.size + 1, 5, none⟩ = some (.slice yh ym yg)) (first | with_reducible exact ⟨cBI_13_0, cBI_13_1, cBI_13_2, cBI_13_3, cBI_13_4, cBI_13_5, cBJ_13_0, cBJ_13_1, cBJ_13_2, cBJ_13_3, cBJ_13_4, cBJ_13_5, cBW_13_0, cBW_13_1, cBW_13_2, cBW_13_3, cBW_13_4, cBW_13_5⟩ | with_reducible exact ⟨cBI_12_0, cBI_12_1, cBI_12_2, cBI_12_3, cBI_12_4, cBI_12_5, cBJ_12_0, cBJ_12_1, cBJ_12_2, cBJ_12_3, cBJ_12_4, cBJ_12_5, cBW_12_0, cBW_12_1, cBW_12_2, cBW_12_3, cBW_12_4, cBW_12_5⟩ | with_reducible exact ⟨cBI_11_0, cBI_11_1, cBI_11_2, cBI_11_3, cBI_11_4, cBI_11_5, cBJ_11_0, cBJ_11_1, cBJ_11_2, cBJ_11_3, cBJ_11_4, cBJ_11_5, cBW_11_0, cBW_11_1, cBW_11_2, cBW_11_3, cBW_11_4, cBW_11_5⟩ | with_reducible exact ⟨cBI_10_0, cBI_10_1, cBI_10_2, cBI_10_3, cBI_10_4, cBI_10_5, cBJ_10_0, cBJ_10_1, cBJ_10_2, cBJ_10_3, cBJ_10_4, cBJ_10_5, cBW_10_0, cBW_10_1, cBW_10_2, cBW_10_3, cBW_10_4, cBW_10_5⟩ | go_keep)
    (first
      | (go_at_call 22; ((with_reducible refine Calls.mono (RV.out _ X1_12.out X2_12.out Y1_12.out Y2_12.out) ?_); rintro e w13 ⟨rfl, k13⟩; have BX_13 := Lib.hid (BX_12.out.keep k13); have BY_13 := Lib.hid (BY_12.out.keep k13); have BZ_13 := Lib.hid (BZ_12.out.keep k13); have X1_13 := Lib.hid (X1_12.out.keep k13); have X2_13 := Lib.hid (X2_12.out.keep k13); have Y1_13 := Lib.hid (Y1_12.out.keep k13); have Y2_13 := Lib.hid (Y2_12.out.keep k13); have T_13 := Lib.hid (T_12.out.keep k13); have XQ_13 := Lib.hid (XQ_12.out.keep k13); have YQ_13 := Lib.hid (YQ_12.out.keep k13); have ZQ_13 := Lib.hid (ZQ_12.out.keep k13); have M_13 := Lib.hid (M_12.out.keep k13); have BI_13 := Lib.hid (BI_12.out.keep k13); have N_13 := Lib.hid (N_12.out.keep k13); have BJ_13 := Lib.hid (BJ_12.out.keep k13); have BW_13 := Lib.hid (BW_12.out.keep k13); have KW_13 := Lib.hid (KW_12.out.trans k13); obtain ⟨cBI_13_0, cBI_13_1, cBI_13_2, cBI_13_3, cBI_13_4, cBI_13_5, -, -, -, -, -, -⟩ := BI_13.out.c6; obtain ⟨cBJ_13_0, cBJ_13_1, cBJ_13_2, cBJ_13_3, cBJ_13_4, cBJ_13_5, -, -, -, -, -, -⟩ := BJ_13.out.c6; obtain ⟨cBW_13_0, cBW_13_1, cBW_13_2, cBW_13_3, cBW_13_4, cBW_13_5, -, -, -, -, -, -⟩ := BW_13.out.c6; clear k13))
      | (go_at_call 21; ((with_reducible refine Calls.mono (VA.out _ X1_11.out X2_11.out Y1_11.out Y2_11.out T_11.out) ?_); rintro e w12 ⟨rfl, k12⟩; have BX_12 := Lib.hid (BX_11.out.keep k12); have BY_12 := Lib.hid (BY_11.out.keep k12); have BZ_12 := Lib.hid (BZ_11.out.keep k12); have X1_12 := Lib.hid (X1_11.out.keep k12); have X2_12 := Lib.hid (X2_11.out.keep k12); have Y1_12 := Lib.hid (Y1_11.out.keep k12); have Y2_12 := Lib.hid (Y2_11.out.keep k12); have T_12 := Lib.hid (T_11.out.keep k12); have XQ_12 := Lib.hid (XQ_11.out.keep k12); have YQ_12 := Lib.hid (YQ_11.out.keep k12); have ZQ_12 := Lib.hid (ZQ_11.out.keep k12); have M_12 := Lib.hid (M_11.out.keep k12); have BI_12 := Lib.hid (BI_11.out.keep k12); have N_12 := Lib.hid (N_11.out.keep k12); have BJ_12 := Lib.hid (BJ_11.out.keep k12); have BW_12 := Lib.hid (BW_11.out.keep k12); have KW_12 := Lib.hid (KW_11.out.trans k12); obtain ⟨cBI_12_0, cBI_12_1, cBI_12_2, cBI_12_3, cBI_12_4, cBI_12_5, -, -, -, -, -, -⟩ := BI_12.out.c6; obtain ⟨cBJ_12_0, cBJ_12_1, cBJ_12_2, cBJ_12_3, cBJ_12_4, cBJ_12_5, -, -, -, -, -, -⟩ := BJ_12.out.c6; obtain ⟨cBW_12_0, cBW_12_1, cBW_12_2, cBW_12_3, cBW_12_4, cBW_12_5, -, -, -, -, -, -⟩ := BW_12.out.c6; clear k12))
      | (go_at_call 20; ((with_reducible refine Calls.mono (isame_t M_10.out N_10.out) ?_); rintro e w11 ⟨rfl, k11⟩; have BX_11 := Lib.hid (BX_10.out.keep k11); have BY_11 := Lib.hid (BY_10.out.keep k11); have BZ_11 := Lib.hid (BZ_10.out.keep k11); have X1_11 := Lib.hid (X1_10.out.keep k11); have X2_11 := Lib.hid (X2_10.out.keep k11); have Y1_11 := Lib.hid (Y1_10.out.keep k11); have Y2_11 := Lib.hid (Y2_10.out.keep k11); have T_11 := Lib.hid (T_10.out.keep k11); have XQ_11 := Lib.hid (XQ_10.out.keep k11); have YQ_11 := Lib.hid (YQ_10.out.keep k11); have ZQ_11 := Lib.hid (ZQ_10.out.keep k11); have M_11 := Lib.hid (M_10.out.keep k11); have BI_11 := Lib.hid (BI_10.out.keep k11); have N_11 := Lib.hid (N_10.out.keep k11); have BJ_11 := Lib.hid (BJ_10.out.keep k11); have BW_11 := Lib.hid (BW_10.out.keep k11); have KW_11 := Lib.hid (KW_10.out.trans k11); obtain ⟨cBI_11_0, cBI_11_1, cBI_11_2, cBI_11_3, cBI_11_4, cBI_11_5, -, -, -, -, -, -⟩ := BI_11.out.c6; obtain ⟨cBJ_11_0, cBJ_11_1, cBJ_11_2, cBJ_11_3, cBJ_11_4, cBJ_11_5, -, -, -, -, -, -⟩ := BJ_11.out.c6; obtain ⟨cBW_11_0, cBW_11_1, cBW_11_2, cBW_11_3, cBW_11_4, cBW_11_5, -, -, -, -, -, -⟩ := BW_11.out.c6; clear k11)))
  clear cBI_13_0 cBI_13_1 cBI_13_2 cBI_13_3 cBI_13_4 cBI_13_5 cBJ_13_0 cBJ_13_1 cBJ_13_2 cBJ_13_3 cBJ_13_4 cBJ_13_5 cBW_13_0 cBW_13_1 cBW_13_2 cBW_13_3 cBW_13_4 cBW_13_5 cBI_12_0 cBI_12_1 cBI_12_2 cBI_12_3 cBI_12_4 cBI_12_5 cBJ_12_0 cBJ_12_1 cBJ_12_2 cBJ_12_3 cBJ_12_4 cBJ_12_5 cBW_12_0 cBW_12_1 cBW_12_2 cBW_12_3 cBW_12_4 cBW_12_5 cBI_11_0 cBI_11_1 cBI_11_2 cBI_11_3 cBI_11_4 cBI_11_5 cBJ_11_0 cBJ_11_1 cBJ_11_2 cBJ_11_3 cBJ_11_4 cBJ_11_5 cBW_11_0 cBW_11_1 cBW_11_2 cBW_11_3 cBW_11_4 cBW_11_5 cBI_10_0 cBI_10_1 cBI_10_2 cBI_10_3 cBI_10_4 cBI_10_5 cBJ_10_0 cBJ_10_1 cBJ_10_2 cBJ_10_3 cBJ_10_4 cBJ_10_5 cBW_10_0 cBW_10_1 cBW_10_2 cBW_10_3 cBW_10_4 cBW_10_5
  all_goals
    go_wp2_with fail
    go_region
    all_goals
      go_wp2_with fail
      go_ret
      exact ⟨rfl, KW_13.out.trans (keep_drew _)⟩
theorem make_law_c {w : World} {xb : Bool} {xa xh : Option Addr} {xn xc xm xg : Nat} {x1 x2 : List Nat} (hx1 : Rd w xa xn xc x1) (hx2 : Rd w xh xm xg x2) {yb : Bool} {ya yh : Option Addr} {yn yc ym yg : Nat} {y1 y2 : List Nat} (hy1 : Rd w ya yn yc y1) (hy2 : Rd w yh ym yg y2) {zb : Bool} {za zh : Option Addr} {zn zc zm zg : Nat} {z1 z2 : List Nat} (hz1 : Rd w za zn zc z1) (hz2 : Rd w zh zm zg z2) (hT : Tab w) : Calls Tryd.prog 4 #[.agg #[.bool xb, .slice xa xn xc, .slice xh xm xg], .agg #[.bool yb, .slice ya yn yc, .slice yh ym yg], .agg #[.bool zb, .slice za zn zc, .slice zh zm zg]] w (BPost true w) := by
  by_cases ex : decide (xn ≤ 2 ∧ xm ≤ 2) = true
  · by_cases ey : decide (yn ≤ 2 ∧ ym ≤ 2) = true
    · by_cases ez : decide (zn ≤ 2 ∧ zm ≤ 2) = true
      · by_cases hc : 0 < rC (rv xb (nv x1) (nv x2)) (rv yb (nv y1) (nv y2))
        · exact make_law_s1 hx1 hx2 hy1 hy2 hz1 hz2 hT ex ey ez hc
        · exact make_law_s0 hx1 hx2 hy1 hy2 hz1 hz2 hT ex ey ez hc
      · rw [Bool.not_eq_true] at ez; exact make_law_b2 hx1 hx2 hy1 hy2 hz1 hz2 hT ex ey ez
    · rw [Bool.not_eq_true] at ey; exact make_law_b1 hx1 hx2 hy1 hy2 hz1 hz2 hT ex ey
  · rw [Bool.not_eq_true] at ex; exact make_law_b0 hx1 hx2 hy1 hy2 hz1 hz2 hT ex
end Go.Proofs.YtbcakefhknjbeaaDoor
