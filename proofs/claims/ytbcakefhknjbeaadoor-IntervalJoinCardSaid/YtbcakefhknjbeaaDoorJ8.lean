/- Walks of layer 6: of, at. -/
import Derived.Test.YtbcakefhknjbeaaDoorJ4
namespace Go.Proofs.YtbcakefhknjbeaaDoor
open Go.RowKit
set_option linter.unusedVariables false
set_option maxHeartbeats 800000 in
theorem rivof_c (x y : Int) (w : World) (h1 : -9223372036854775808 ≤ x) (h2 : x ≤ 9223372036854775807) (h3 : -9223372036854775808 ≤ y) (h4 : y ≤ 9223372036854775807) : Calls Tryd.prog 53 #[.int .i64 x, .int .i64 y] w (JPost (x : Rat) (y : Rat) w) := by
  have KW_0 := Lib.hid (show Keep w (w.alloc (.cells #[.bool false, .slice none 0 0, .slice none 0 0, .bool false, .slice none 0 0, .slice none 0 0] 35)) from (Keep.alloc (Keep.refl _) _))
  have RB_0 := Lib.hid (show Bx (w.heap.size) [.bool false, .slice none 0 0, .slice none 0 0, .bool false, .slice none 0 0, .slice none 0 0] (w.alloc (.cells #[.bool false, .slice none 0 0, .slice none 0 0, .bool false, .slice none 0 0, .slice none 0 0] 35)) from ((Bx.new w 35 (.b _ (.s _ _ _ (.s _ _ _ (.b _ (.s _ _ _ (.s _ _ _ .nil))))))).at (g' := w.heap.size) (by simp)).keep (Keep.refl _))
  have C1 := Lib.hid (fun w1 => rqof_c x w1 h1 h2)
  have C2 := Lib.hid (fun w1 => rqof_c y w1 h3 h4)
  clear h1 h2 h3 h4
  go_enter Tryd.func53, Tryd.ntmps53
  obtain ⟨RB_c0, RB_c1, RB_c2, RB_c3, RB_c4, RB_c5, -, -, -, -, -, -⟩ := RB_0.out.c6
  go_wp2_with fail
  refine Calls.mono (C1.out _) ?_
  rintro e w1 ⟨x1, rfl, hU, k1⟩
  clear RB_c0 RB_c1 RB_c2 RB_c3 RB_c4 RB_c5
  have RB_1 := Lib.hid (RB_0.out.keep k1)
  have U_1 := Lib.hid hU
  have KW_1 := Lib.hid (KW_0.out.trans k1)
  clear k1 RB_0 hU KW_0
  obtain ⟨RB_c0, RB_c1, RB_c2, RB_c3, RB_c4, RB_c5, -, -, -, -, -, -⟩ := RB_1.out.c6
  go_wp2_with fail
  refine Calls.mono (C2.out _) ?_
  rintro e wz ⟨u, rfl, hu, kz⟩
  clear RB_c0 RB_c1 RB_c2 RB_c3 RB_c4 RB_c5
  obtain ⟨b0, a0, n0, c0, h0, m0, g0, b1, a1, n1, c1, h1, m1, g1, rfl, rfl, hcr, hkk, -⟩ := ICr.put (U_1.out.keep kz) hu (RB_1.out.keep kz) rfl (KW_1.out.trans kz) (by omega)
  have FIN := Lib.hid (show JPost ((x : Rat)) ((y : Rat)) w (.returned (.agg #[.bool b0, .slice a0 n0 c0, .slice h0 m0 g0, .bool b1, .slice a1 n1 c1, .slice h1 m1 g1])) ((((((wz.setCell ⟨w.heap.size, 0, none⟩ (.bool b0)).setCell ⟨w.heap.size, 1, none⟩ (.slice a0 n0 c0)).setCell ⟨w.heap.size, 2, none⟩ (.slice h0 m0 g0)).setCell ⟨w.heap.size, 3, none⟩ (.bool b1)).setCell ⟨w.heap.size, 4, none⟩ (.slice a1 n1 c1)).setCell ⟨w.heap.size, 5, none⟩ (.slice h1 m1 g1)) from ⟨_, rfl, hcr, hkk⟩)
  obtain ⟨s0, s1, s2, s3, s4, s5⟩ := (RB_1.out.keep kz).chain6 (.bool b0) (.slice a0 n0 c0) (.slice h0 m0 g0) (.bool b1) (.slice a1 n1 c1) (.slice h1 m1 g1)
  obtain ⟨r0, r1, r2, r3, r4, r5, t0, t1, t2, t3, t4, t5⟩ := (RB_1.out.keep kz).c6
  clear hcr hkk hu kz KW_1 RB_1 U_1
  go_wp2
  refine bodyPost_ret (v := .agg #[.bool b0, .slice a0 n0 c0, .slice h0 m0 g0, .bool b1, .slice a1 n1 c1, .slice h1 m1 g1]) (by simp [results, Tryd.results53, go_sem, s0, s1, s2, s3, s4, s5]) rfl ?_
  exact FIN.out
theorem rb255 {n : Int} (h0 : 0 ≤ n) (h1 : n ≤ 255) : Rb ((n : Rat) / ((255 : Int) : Rat)) 2 := by
  have a := (rb_int (z := n) (k := 1) (by rw [Nat.pow_one, BB_eq]; omega) (by omega))
  have b := (rb_int (z := 255) (k := 1) (by rw [Nat.pow_one, BB_eq]; decide) (by omega)).inv (by omega)
  rw [Rat.div_def]
  exact a.mul b (by omega)
set_option maxHeartbeats 800000 in
theorem at_c {w : World} {vx : Value} {p q : Rat} {k : Nat} (part : Int) (hx : IRa w vx p q k) (hk : k ≤ 1000) (hk1 : 1 ≤ k) (h0 : 0 ≤ part) (h1 : part ≤ 255) : Calls Tryd.prog 30 #[vx, .int .u8 part] w (RPost (p + (part : Rat) / ((255 : Int) : Rat) * (q - p)) w) := by
  obtain ⟨xlb, xla, xln, xlc, xlh, xlm, xlg, xub, xua, xun, xuc, xuh, xum, xug, rfl, hxl, hxu⟩ := hx
  have KW_0 := Lib.hid (show Keep w ((w.alloc (.cells #[.bool xlb, .slice xla xln xlc, .slice xlh xlm xlg, .bool xub, .slice xua xun xuc, .slice xuh xum xug] 35)).alloc (.cells #[.bool false, .slice none 0 0, .slice none 0 0] 32)) from (Keep.alloc (Keep.alloc (Keep.refl _) _) _))
  have BX_0 := Lib.hid (show Bx (w.heap.size) [.bool xlb, .slice xla xln xlc, .slice xlh xlm xlg, .bool xub, .slice xua xun xuc, .slice xuh xum xug] ((w.alloc (.cells #[.bool xlb, .slice xla xln xlc, .slice xlh xlm xlg, .bool xub, .slice xua xun xuc, .slice xuh xum xug] 35)).alloc (.cells #[.bool false, .slice none 0 0, .slice none 0 0] 32)) from ((Bx.new w 35 (.b _ (.s _ _ _ (.s _ _ _ (.b _ (.s _ _ _ (.s _ _ _ .nil))))))).at (g' := w.heap.size) (by simp)).keep (Keep.alloc (Keep.refl _) _))
  have RB_0 := Lib.hid (show Bx (w.heap.size + 1) [.bool false, .slice none 0 0, .slice none 0 0] ((w.alloc (.cells #[.bool xlb, .slice xla xln xlc, .slice xlh xlm xlg, .bool xub, .slice xua xun xuc, .slice xuh xum xug] 35)).alloc (.cells #[.bool false, .slice none 0 0, .slice none 0 0] 32)) from ((Bx.new (w.alloc (.cells #[.bool xlb, .slice xla xln xlc, .slice xlh xlm xlg, .bool xub, .slice xua xun xuc, .slice xuh xum xug] 35)) 32 (.b _ (.s _ _ _ (.s _ _ _ .nil)))).at (g' := w.heap.size + 1) (by simp)).keep (Keep.refl _))
  have XL_0 := Lib.hid (hxl.keep KW_0.out)
  have XU_0 := Lib.hid (hxu.keep KW_0.out)
  have FR := Lib.hid (fun w1 => rqfrac_1 part 255 w1 (by omega) (by omega) (by omega) (by omega) (by decide))
  have b1 := (hxu.rb hk1).sub (hxl.rb hk1)
  have b2 := (rb255 h0 h1).mul b1 (by omega)
  have SU := Lib.hid (fun w1 (h : Ra w1 (.agg #[.bool xub, .slice xua xun xuc, .slice xuh xum xug]) q k) (h' : Ra w1 (.agg #[.bool xlb, .slice xla xln xlc, .slice xlh xlm xlg]) p k) => rqsub_c h h' (by omega) hk1)
  have bf := rb255 h0 h1
  have MU := Lib.hid (fun w1 u v (h : Cr w1 u ((part : Rat) / ((255 : Int) : Rat))) (h' : Cr w1 v (q - p)) => rqmul_c (h.ra (bf.up (j := k + k + 2) (by omega))) (h'.ra (b1.up (j := k + k + 2) (by omega))) (by omega) (by omega))
  have AD := Lib.hid (fun w1 v (h : Ra w1 (.agg #[.bool xlb, .slice xla xln xlc, .slice xlh xlm xlg]) p k) (h' : Cr w1 v ((part : Rat) / ((255 : Int) : Rat) * (q - p))) => rqadd_c (h.up (j := k + k + 4) (by omega)) (h'.ra (b2.up (j := k + k + 4) (by omega))) (by omega) (by omega))
  obtain ⟨F, hF⟩ : ∃ F, (part : Rat) / ((255 : Int) : Rat) = F := ⟨_, rfl⟩
  rw [hF] at FR MU AD ⊢
  clear hF b1 b2 bf hxl hxu
  go_enter Tryd.func30, Tryd.ntmps30
  obtain ⟨BX_c0, BX_c1, BX_c2, BX_c3, BX_c4, BX_c5, -, -, -, -, -, -⟩ := BX_0.out.c6
  obtain ⟨RB_c0, RB_c1, RB_c2, -, -, -⟩ := RB_0.out.c3
  go_wp2_with fail
  refine Calls.mono (FR.out _) ?_
  rintro e w1 ⟨x1, rfl, hF, k1⟩
  clear BX_c0 BX_c1 BX_c2 BX_c3 BX_c4 BX_c5 RB_c0 RB_c1 RB_c2
  have BX_1 := Lib.hid (BX_0.out.keep k1)
  have RB_1 := Lib.hid (RB_0.out.keep k1)
  have XL_1 := Lib.hid (XL_0.out.keep k1)
  have XU_1 := Lib.hid (XU_0.out.keep k1)
  have F_1 := Lib.hid hF
  have KW_1 := Lib.hid (KW_0.out.trans k1)
  have hz1 := Below.size k1
  simp at hz1
  clear k1 BX_0 RB_0 XL_0 XU_0 hF KW_0
  obtain ⟨fb, fa, fn, fc, fh, fm, fg, rfl, hF2⟩ := Cr.fv F_1.out
  have F2_1 := Lib.hid hF2
  clear hF2 F_1
  have BX_2 := Lib.hid (BX_1.out.keep (Keep.alloc (Keep.refl _) (.cells #[.bool fb, .slice fa fn fc, .slice fh fm fg] 32)))
  have RB_2 := Lib.hid (RB_1.out.keep (Keep.alloc (Keep.refl _) (.cells #[.bool fb, .slice fa fn fc, .slice fh fm fg] 32)))
  have XL_2 := Lib.hid (XL_1.out.keep (Keep.alloc (Keep.refl _) (.cells #[.bool fb, .slice fa fn fc, .slice fh fm fg] 32)))
  have XU_2 := Lib.hid (XU_1.out.keep (Keep.alloc (Keep.refl _) (.cells #[.bool fb, .slice fa fn fc, .slice fh fm fg] 32)))
  have F_2 := Lib.hid (F2_1.out.keep (Keep.alloc (Keep.refl _) (.cells #[.bool fb, .slice fa fn fc, .slice fh fm fg] 32)))
  have KW_2 := Lib.hid (KW_1.out.trans (Keep.alloc (Keep.refl _) (.cells #[.bool fb, .slice fa fn fc, .slice fh fm fg] 32)))
  have BF_2 := Lib.hid (show Bx w1.heap.size [.bool fb, .slice fa fn fc, .slice fh fm fg] (w1.alloc (.cells #[.bool fb, .slice fa fn fc, .slice fh fm fg] 32)) from Bx.new w1 32 (.b _ (.s _ _ _ (.s _ _ _ .nil))))
  clear BX_1 RB_1 XL_1 XU_1 F2_1 KW_1
  clear FR
  obtain ⟨oRB_0, oRB_1, oRB_2, qRB_0, qRB_1, qRB_2⟩ := RB_2.out.c3
  obtain ⟨oBX_0, oBX_1, oBX_2, oBX_3, oBX_4, oBX_5, qBX_0, qBX_1, qBX_2, qBX_3, qBX_4, qBX_5⟩ := BX_2.out.c6
  obtain ⟨oBF_0, oBF_1, oBF_2, qBF_0, qBF_1, qBF_2⟩ := BF_2.out.c3
  have BX_3 := Lib.hid (BX_2.out.keep (keep_drew _))
  clear BX_2
  have RB_3 := Lib.hid (RB_2.out.keep (keep_drew _))
  clear RB_2
  have XL_3 := Lib.hid (XL_2.out.keep (keep_drew _))
  clear XL_2
  have XU_3 := Lib.hid (XU_2.out.keep (keep_drew _))
  clear XU_2
  have F_3 := Lib.hid (F_2.out.keep (keep_drew _))
  clear F_2
  have BF_3 := Lib.hid (BF_2.out.keep (keep_drew _))
  clear BF_2
  have KW_3 := Lib.hid (KW_2.out.trans (keep_drew _))
  clear KW_2
  obtain ⟨cBX_3_0, cBX_3_1, cBX_3_2, cBX_3_3, cBX_3_4, cBX_3_5, -, -, -, -, -, -⟩ := BX_3.out.c6
  obtain ⟨cBF_3_0, cBF_3_1, cBF_3_2, -, -, -⟩ := BF_3.out.c3
  go_wp2
  go_region_held3 (fun w' => w'.cell? ⟨w.heap.size, 0, none⟩ = some (.bool xlb) ∧ w'.cell? ⟨w.heap.size, 1, none⟩ = some (.slice xla xln xlc) ∧ w'.cell? ⟨w.heap.size, 2, none⟩ = some (.slice xlh xlm xlg) ∧ w'.cell? ⟨w.heap.size, 3, none⟩ = some (.bool xub) ∧ w'.cell? ⟨w.heap.size, 4, none⟩ = some (.slice xua xun xuc) ∧ w'.cell? ⟨w.heap.size, 5, none⟩ = some (.slice xuh xum xug) ∧ w'.cell? ⟨w1.heap.size, 0, none⟩ = some (.bool fb) ∧ w'.cell? ⟨w1.heap.size, 1, none⟩ = some (.slice fa fn fc) ∧ w'.cell? ⟨w1.heap.size, 2, none⟩ = some (.slice fh fm fg)) (first | with_reducible exact ⟨yBX_0, yBX_1, yBX_2, yBX_3, yBX_4, yBX_5, yBF_0, yBF_1, yBF_2⟩ | with_reducible exact ⟨zBX_0, zBX_1, zBX_2, zBX_3, zBX_4, zBX_5, zBF_0, zBF_1, zBF_2⟩ | with_reducible exact ⟨cBX_5_0, cBX_5_1, cBX_5_2, cBX_5_3, cBX_5_4, cBX_5_5, cBF_5_0, cBF_5_1, cBF_5_2⟩ | with_reducible exact ⟨cBX_4_0, cBX_4_1, cBX_4_2, cBX_4_3, cBX_4_4, cBX_4_5, cBF_4_0, cBF_4_1, cBF_4_2⟩ | with_reducible exact ⟨cBX_3_0, cBX_3_1, cBX_3_2, cBX_3_3, cBX_3_4, cBX_3_5, cBF_3_0, cBF_3_1, cBF_3_2⟩ | go_keep)
    (first
      | (go_at_call 65; ((with_reducible refine Calls.mono (AD.out _ _ XL_5.out E_5.out) ?_); rintro e wz ⟨u, rfl, hu, kz⟩; obtain ⟨b0, a0, n0, c0, h0, m0, g0, rfl, hcr, hkk⟩ := Cr.put3 hu (RB_5.out.keep kz) rfl (KW_5.out.trans kz) (by omega); have FIN := Lib.hid (show RPost (p + F * (q - p)) w (.returned (.agg #[.bool b0, .slice a0 n0 c0, .slice h0 m0 g0])) (((wz.setCell ⟨w.heap.size + 1, 0, none⟩ (.bool b0)).setCell ⟨w.heap.size + 1, 1, none⟩ (.slice a0 n0 c0)).setCell ⟨w.heap.size + 1, 2, none⟩ (.slice h0 m0 g0)) from ⟨_, rfl, hcr, hkk⟩); obtain ⟨s0, s1, s2⟩ := (RB_5.out.keep kz).chain3 (.bool b0) (.slice a0 n0 c0) (.slice h0 m0 g0); obtain ⟨r0, r1, r2, t0, t1, t2⟩ := (RB_5.out.keep kz).c3; obtain ⟨yBX_0, yBX_1, yBX_2, yBX_3, yBX_4, yBX_5, -, -, -, -, -, -⟩ := (show Bx (w.heap.size) [.bool xlb, .slice xla xln xlc, .slice xlh xlm xlg, .bool xub, .slice xua xun xuc, .slice xuh xum xug] (((wz.setCell ⟨w.heap.size + 1, 0, none⟩ (.bool b0)).setCell ⟨w.heap.size + 1, 1, none⟩ (.slice a0 n0 c0)).setCell ⟨w.heap.size + 1, 2, none⟩ (.slice h0 m0 g0)) from ((BX_5.out.keep kz).other (g' := w.heap.size + 1) 0 [.bool b0, .slice a0 n0 c0, .slice h0 m0 g0] (by omega))).c6; obtain ⟨zBX_0, zBX_1, zBX_2, zBX_3, zBX_4, zBX_5, -, -, -, -, -, -⟩ := (BX_5.out.keep kz).c6; obtain ⟨yBF_0, yBF_1, yBF_2, -, -, -⟩ := (show Bx (w1.heap.size) [.bool fb, .slice fa fn fc, .slice fh fm fg] (((wz.setCell ⟨w.heap.size + 1, 0, none⟩ (.bool b0)).setCell ⟨w.heap.size + 1, 1, none⟩ (.slice a0 n0 c0)).setCell ⟨w.heap.size + 1, 2, none⟩ (.slice h0 m0 g0)) from ((BF_5.out.keep kz).other (g' := w.heap.size + 1) 0 [.bool b0, .slice a0 n0 c0, .slice h0 m0 g0] (by omega))).c3; obtain ⟨zBF_0, zBF_1, zBF_2, -, -, -⟩ := (BF_5.out.keep kz).c3; clear hcr hkk hu kz))
      | (go_at_call 31; ((with_reducible refine Calls.mono (MU.out _ _ _ F_4.out D_4.out) ?_); rintro e w5 ⟨x3, rfl, hE, k5⟩; have BX_5 := Lib.hid (BX_4.out.keep k5); have RB_5 := Lib.hid (RB_4.out.keep k5); have XL_5 := Lib.hid (XL_4.out.keep k5); have XU_5 := Lib.hid (XU_4.out.keep k5); have F_5 := Lib.hid (F_4.out.keep k5); have BF_5 := Lib.hid (BF_4.out.keep k5); have D_5 := Lib.hid (D_4.out.keep k5); have E_5 := Lib.hid hE; clear hE; have KW_5 := Lib.hid (KW_4.out.trans k5); obtain ⟨cBX_5_0, cBX_5_1, cBX_5_2, cBX_5_3, cBX_5_4, cBX_5_5, -, -, -, -, -, -⟩ := BX_5.out.c6; obtain ⟨cBF_5_0, cBF_5_1, cBF_5_2, -, -, -⟩ := BF_5.out.c3; clear k5))
      | (go_at_call 66; ((with_reducible refine Calls.mono (SU.out _ XU_3.out XL_3.out) ?_); rintro e w4 ⟨x2, rfl, hD, k4⟩; have BX_4 := Lib.hid (BX_3.out.keep k4); have RB_4 := Lib.hid (RB_3.out.keep k4); have XL_4 := Lib.hid (XL_3.out.keep k4); have XU_4 := Lib.hid (XU_3.out.keep k4); have F_4 := Lib.hid (F_3.out.keep k4); have BF_4 := Lib.hid (BF_3.out.keep k4); have D_4 := Lib.hid hD; clear hD; have KW_4 := Lib.hid (KW_3.out.trans k4); obtain ⟨cBX_4_0, cBX_4_1, cBX_4_2, cBX_4_3, cBX_4_4, cBX_4_5, -, -, -, -, -, -⟩ := BX_4.out.c6; obtain ⟨cBF_4_0, cBF_4_1, cBF_4_2, -, -, -⟩ := BF_4.out.c3; clear k4)))
  all_goals
    go_wp2
    refine bodyPost_ret (v := .agg #[.bool b0, .slice a0 n0 c0, .slice h0 m0 g0]) (by simp [results, Tryd.results30, go_sem, s0, s1, s2]) rfl ?_
    exact FIN.out
end Go.Proofs.YtbcakefhknjbeaaDoor
