/- Carried over from another seat by program (port.py): layer 1. -/
import Derived.Test.YtjkfnnoakjdgmaaGreatDoorR14
import Derived.Deep.DeepCutAuto
import Derived.Outline
namespace Go.Proofs.YtjkfnnoakjdgmaaGreatDoor
open Go.RowKit
set_option linter.unusedVariables false
theorem whole_cr {w : World} {F : Int} {a : Option Addr} {n c : Nat} (h0 : 0 ≤ F) (h : Ci w (.agg #[.bool false, .slice a n c]) F) : Cr w (.agg #[.bool false, .slice a n c, .slice none 0 0]) (F : Rat) := by
  obtain ⟨_, _, _, e, hr⟩ := h.cn
  cases e
  obtain ⟨p1, p2, p3⟩ := of_parts F
  refine Cr.of (p1.trans (decide_eq_false (by omega))) (by rw [p2]; exact hr) (by rw [p3, dig_zero]; exact Rd.nil _)
set_option maxHeartbeats 4000000 in
theorem simplest_s (N : Nat) (ih : ∀ {w : World} {v u : Value} {lo hi : Rat} {k : Nat}, Ra w v lo k → Ra w u hi k → 0 < lo → lo ≤ hi → lo.den + hi.den ≤ N → 1 ≤ k → k < 47 → Tab w → Calls Tryz.prog 15 #[v, u] w (RPost (smpF N lo hi) w))
    {w : World} {s t : Bool} {a a' b b' : Option Addr} {n c n' c' m g m' g' k : Nat} {lo hi : Rat} (hx : Ra w (.agg #[.bool s, .slice a n c, .slice a' n' c']) lo k) (hy : Ra w (.agg #[.bool t, .slice b m g, .slice b' m' g']) hi k) (h0 : 0 < lo) (h1 : lo ≤ hi) (hN : lo.den + hi.den ≤ N + 1) (hk1 : 1 ≤ k) (hk : k < 47) (hT : Tab w) :
    Calls Tryz.prog 15 #[.agg #[.bool s, .slice a n c, .slice a' n' c'], .agg #[.bool t, .slice b m g, .slice b' m' g']] w (RPost (smpF (N + 1) lo hi) w) := by
  obtain ⟨B_0, C_0, R_0, KW_0⟩ := op2 w s a n c a' n' c' t b m g b' m' g'
  have X_0 := Lib.hid (hx.keep KW_0.out)
  have Y_0 := Lib.hid (hy.keep KW_0.out)
  have T_0 := Lib.hid (hT.keep KW_0.out)
  have rlo := hx.rb hk1
  have rhi := hy.rb hk1
  obtain ⟨f0, fB⟩ := floor_rb h0 rlo
  have FL := Lib.hid (fun w1 (h : Ra w1 (.agg #[.bool s, .slice a n c, .slice a' n' c']) lo k) => qfloor_c h (by omega) hk1)
  have hfle : (lo.floor : Rat) ≤ lo := Rat.floor_le lo
  have hsm : smpF (N + 1) lo hi = if (lo.floor : Rat) = lo then lo else if (lo.floor : Rat) + 1 ≤ hi then (lo.floor : Rat) + 1 else (lo.floor : Rat) + (smpF N (hi - (lo.floor : Rat))⁻¹ (lo - (lo.floor : Rat))⁻¹)⁻¹ := rfl
  obtain ⟨F, hF⟩ : ∃ F, lo.floor = F := ⟨_, rfl⟩
  rw [hF] at FL hfle hsm f0 fB
  have CP := Lib.hid (fun w1 u (hu : Ra w1 u (F : Rat) k) (h : Ra w1 (.agg #[.bool s, .slice a n c, .slice a' n' c']) lo k) => qcmp_c hu h (by omega) hk1)
  have HF := Lib.hid (And.intro f0 fB)
  have HFLE := Lib.hid hfle
  have HLO := Lib.hid (And.intro h0 h1)
  have HRB := Lib.hid (And.intro rlo rhi)
  have HFD := Lib.hid hF
  have HDN := Lib.hid hN
  clear hx hy hT rlo rhi hfle hF f0 fB h0 h1 hN
  have hrF : Rb (F : Rat) k := rb_int HF.out.2 hk1
  have HRF := Lib.hid hrF
  clear hrF
  by_cases hc : (F : Rat) = lo
  · rw [hsm, if_pos hc]
    rw [hc, rC_self] at CP
    clear hsm ih
    go_enter Tryz.func15, Tryz.ntmps15
    obtain ⟨B_c0, B_c1, B_c2, -, -, -, -⟩ := id B_0.out
    obtain ⟨C_c0, C_c1, C_c2, -, -, -, -⟩ := id C_0.out
    obtain ⟨R_c0, R_c1, R_c2, -, -, -, -⟩ := id R_0.out
    go_wp2_with fail
    refine Calls.mono (FL.out _ X_0.out) ?_
    rintro e w1 ⟨vF, rfl, hI, k1⟩
    clear B_c0 B_c1 B_c2 C_c0 C_c1 C_c2 R_c0 R_c1 R_c2
    have X_1 := Lib.hid (X_0.out.keep k1)
    have Y_1 := Lib.hid (Y_0.out.keep k1)
    have T_1 := Lib.hid (T_0.out.keep k1)
    have B_1 := Lib.hid (B_0.out.keep k1)
    have C_1 := Lib.hid (C_0.out.keep k1)
    have R_1 := Lib.hid (R_0.out.keep k1)
    have I_1 := Lib.hid hI
    have KW_1 := Lib.hid (KW_0.out.trans k1)
    clear k1 X_0 Y_0 T_0 B_0 C_0 R_0 hI KW_0
    obtain ⟨fa, fn, fc, rfl, -, -⟩ := I_1.out.form'
    have hfz : decide (F < 0) = false := decide_eq_false (by have := HF.out.1; omega)
    rw [hfz]
    have I_50 := Lib.hid (I_1.out)
    rw [hfz] at I_50
    clear hfz
    have X_2 := Lib.hid (X_1.out.keep ((Keep.refl _).alloc (.cells #[.bool false, .slice fa fn fc] 35)))
    have Y_2 := Lib.hid (Y_1.out.keep ((Keep.refl _).alloc (.cells #[.bool false, .slice fa fn fc] 35)))
    have T_2 := Lib.hid (T_1.out.keep ((Keep.refl _).alloc (.cells #[.bool false, .slice fa fn fc] 35)))
    have B_2 := Lib.hid (B_1.out.keep ((Keep.refl _).alloc (.cells #[.bool false, .slice fa fn fc] 35)))
    have C_2 := Lib.hid (C_1.out.keep ((Keep.refl _).alloc (.cells #[.bool false, .slice fa fn fc] 35)))
    have R_2 := Lib.hid (R_1.out.keep ((Keep.refl _).alloc (.cells #[.bool false, .slice fa fn fc] 35)))
    have I_2 := Lib.hid (I_50.out.keep ((Keep.refl _).alloc (.cells #[.bool false, .slice fa fn fc] 35)))
    have KW_2 := Lib.hid (KW_1.out.trans ((Keep.refl _).alloc (.cells #[.bool false, .slice fa fn fc] 35)))
    clear X_1 Y_1 T_1 B_1 C_1 R_1 I_50 KW_1
    have P_2 := Lib.hid (RBox.new w1 false fa fn fc)
    have X_3 := Lib.hid (X_2.out.keep ((Keep.refl _).alloc (.cells #[.bool false, .slice fa fn fc, .slice none 0 0] 25)))
    have Y_3 := Lib.hid (Y_2.out.keep ((Keep.refl _).alloc (.cells #[.bool false, .slice fa fn fc, .slice none 0 0] 25)))
    have T_3 := Lib.hid (T_2.out.keep ((Keep.refl _).alloc (.cells #[.bool false, .slice fa fn fc, .slice none 0 0] 25)))
    have B_3 := Lib.hid (B_2.out.keep ((Keep.refl _).alloc (.cells #[.bool false, .slice fa fn fc, .slice none 0 0] 25)))
    have C_3 := Lib.hid (C_2.out.keep ((Keep.refl _).alloc (.cells #[.bool false, .slice fa fn fc, .slice none 0 0] 25)))
    have R_3 := Lib.hid (R_2.out.keep ((Keep.refl _).alloc (.cells #[.bool false, .slice fa fn fc, .slice none 0 0] 25)))
    have I_3 := Lib.hid (I_2.out.keep ((Keep.refl _).alloc (.cells #[.bool false, .slice fa fn fc, .slice none 0 0] 25)))
    have P_3 := Lib.hid (P_2.out.keep ((Keep.refl _).alloc (.cells #[.bool false, .slice fa fn fc, .slice none 0 0] 25)))
    have KW_3 := Lib.hid (KW_2.out.trans ((Keep.refl _).alloc (.cells #[.bool false, .slice fa fn fc, .slice none 0 0] 25)))
    clear X_2 Y_2 T_2 B_2 C_2 R_2 I_2 P_2 KW_2
    have WB_3 := Lib.hid ((QBox.new (w1.alloc (.cells #[.bool false, .slice fa fn fc] 35)) false fa fn fc none 0 0).at (sz1 _ _))
    have WR_3 : Hid (Cr (((w1).alloc (.cells #[.bool false, .slice fa fn fc] 35)).alloc (.cells #[.bool false, .slice fa fn fc, .slice none 0 0] 25)) (.agg #[.bool false, .slice fa fn fc, .slice none 0 0]) (F : Rat)) := Lib.hid (whole_cr HF.out.1 I_3.out)
    clear P_3 I_3
    rw [hc] at WR_3
    obtain ⟨B_c0, B_c1, B_c2, -, -, -, -⟩ := id B_3.out
    obtain ⟨C_c0, C_c1, C_c2, -, -, -, -⟩ := id C_3.out
    obtain ⟨R_c0, R_c1, R_c2, -, -, -, -⟩ := id R_3.out
    obtain ⟨WB_c0, WB_c1, WB_c2, -, -, -, -⟩ := id WB_3.out
    go_wp2_with fail
    refine Calls.mono (CP.out _ _ (WR_3.out.ra (hc ▸ HRF.out)) X_3.out) ?_
    rintro e w4 ⟨rfl, k4⟩
    clear B_c0 B_c1 B_c2 C_c0 C_c1 C_c2 R_c0 R_c1 R_c2 WB_c0 WB_c1 WB_c2
    have X_4 := Lib.hid (X_3.out.keep k4)
    have Y_4 := Lib.hid (Y_3.out.keep k4)
    have T_4 := Lib.hid (T_3.out.keep k4)
    have B_4 := Lib.hid (B_3.out.keep k4)
    have C_4 := Lib.hid (C_3.out.keep k4)
    have R_4 := Lib.hid (R_3.out.keep k4)
    have WB_4 := Lib.hid (WB_3.out.keep k4)
    have WR_4 := Lib.hid (WR_3.out.keep k4)
    have KW_4 := Lib.hid (KW_3.out.trans k4)
    clear k4 X_3 Y_3 T_3 B_3 C_3 R_3 WB_3 WR_3 KW_3
    have hrds := (WR_4.out).rds
    obtain ⟨FF, -, s0, s1, s2⟩ := put_of (w0 := w) hrds.1 hrds.2.1 hrds.2.2 R_4.out KW_4.out (by omega)
    have FIN := Lib.hid FF
    obtain ⟨R_c0, R_c1, R_c2, R_f0, R_f1, R_f2, -⟩ := id R_4.out
    obtain ⟨m0, m1, m2, -⟩ := id WB_4.out
    clear FF hrds
    go_wp2
    refine bodyPost_ret (v := .agg #[.bool false, .slice fa fn fc, .slice none 0 0]) (by simp [results, Tryz.results15, go_sem, s0, s1, s2]) rfl ?_
    exact FIN.out
  · rw [hsm, if_neg hc]
    have hflt : (F : Rat) < lo := Rat.lt_of_le_of_ne HFLE.out hc
    rw [rC_lt hflt] at CP
    have HFLT := Lib.hid hflt
    have AD := Lib.hid (fun w1 u v (hu : Ra w1 u (F : Rat) k) (hv : Cr w1 v ((1 : Int) : Rat)) (hT1 : Tab w1) => qadd_c hu (hv.ra (rb_int (k := k) (one_lt_BB hk1) hk1)) (by omega) hk1 hT1)
    have OF1 := Lib.hid (fun w1 => qof_c 1 w1 (by omega) (by omega))
    have hq1 : (F : Rat) + ((1 : Int) : Rat) = (F : Rat) + 1 := rfl
    rw [hq1] at AD
    have hrb1 : Rb ((F : Rat) + 1) (k + 1) := by
      have e : (F : Rat) + 1 = ((F + 1 : Int) : Rat) := by rw [Rat.intCast_add]; rfl
      rw [e]
      refine rb_int ?_ (by omega)
      have h1 := HF.out.2
      have h2 := one_lt_BB hk1
      have h3 := lt_add_pow h1 h2
      have := HF.out.1
      omega
    have CP2 := Lib.hid (fun w1 u (hu : Cr w1 u ((F : Rat) + 1)) (h : Ra w1 (.agg #[.bool t, .slice b m g, .slice b' m' g']) hi k) => qcmp_c (hu.ra hrb1) (h.up (Nat.le_succ k)) (by omega) (by omega))
    have HRB1 := Lib.hid hrb1
    clear hsm hc hflt hq1 hrb1
    by_cases hc2 : (F : Rat) + 1 ≤ hi
    · rw [if_pos hc2]
      obtain ⟨z, hz⟩ : ∃ z, rC ((F : Rat) + 1) hi = z := ⟨_, rfl⟩
      have hzd : decide (z ≤ 0) = true := decide_eq_true (by
        rw [← hz]; rcases rC_facts ((F : Rat) + 1) hi with h | h | h
        · rw [h.1]; decide
        · rw [h.1]; decide
        · exact absurd hc2 (by rw [Rat.not_le]; exact h.2))
      rw [hz] at CP2
      clear hz ih hc2
      go_enter Tryz.func15, Tryz.ntmps15
      obtain ⟨B_c0, B_c1, B_c2, -, -, -, -⟩ := id B_0.out
      obtain ⟨C_c0, C_c1, C_c2, -, -, -, -⟩ := id C_0.out
      obtain ⟨R_c0, R_c1, R_c2, -, -, -, -⟩ := id R_0.out
      go_wp2_with fail
      refine Calls.mono (FL.out _ X_0.out) ?_
      rintro e w1 ⟨vF, rfl, hI, k1⟩
      clear B_c0 B_c1 B_c2 C_c0 C_c1 C_c2 R_c0 R_c1 R_c2
      have X_1 := Lib.hid (X_0.out.keep k1)
      have Y_1 := Lib.hid (Y_0.out.keep k1)
      have T_1 := Lib.hid (T_0.out.keep k1)
      have B_1 := Lib.hid (B_0.out.keep k1)
      have C_1 := Lib.hid (C_0.out.keep k1)
      have R_1 := Lib.hid (R_0.out.keep k1)
      have I_1 := Lib.hid hI
      have KW_1 := Lib.hid (KW_0.out.trans k1)
      clear k1 X_0 Y_0 T_0 B_0 C_0 R_0 hI KW_0
      obtain ⟨fa, fn, fc, rfl, -, -⟩ := I_1.out.form'
      have hfz : decide (F < 0) = false := decide_eq_false (by have := HF.out.1; omega)
      rw [hfz]
      have I_50 := Lib.hid (I_1.out)
      rw [hfz] at I_50
      clear hfz
      have X_2 := Lib.hid (X_1.out.keep ((Keep.refl _).alloc (.cells #[.bool false, .slice fa fn fc] 35)))
      have Y_2 := Lib.hid (Y_1.out.keep ((Keep.refl _).alloc (.cells #[.bool false, .slice fa fn fc] 35)))
      have T_2 := Lib.hid (T_1.out.keep ((Keep.refl _).alloc (.cells #[.bool false, .slice fa fn fc] 35)))
      have B_2 := Lib.hid (B_1.out.keep ((Keep.refl _).alloc (.cells #[.bool false, .slice fa fn fc] 35)))
      have C_2 := Lib.hid (C_1.out.keep ((Keep.refl _).alloc (.cells #[.bool false, .slice fa fn fc] 35)))
      have R_2 := Lib.hid (R_1.out.keep ((Keep.refl _).alloc (.cells #[.bool false, .slice fa fn fc] 35)))
      have I_2 := Lib.hid (I_50.out.keep ((Keep.refl _).alloc (.cells #[.bool false, .slice fa fn fc] 35)))
      have KW_2 := Lib.hid (KW_1.out.trans ((Keep.refl _).alloc (.cells #[.bool false, .slice fa fn fc] 35)))
      clear X_1 Y_1 T_1 B_1 C_1 R_1 I_50 KW_1
      have P_2 := Lib.hid (RBox.new w1 false fa fn fc)
      have X_3 := Lib.hid (X_2.out.keep ((Keep.refl _).alloc (.cells #[.bool false, .slice fa fn fc, .slice none 0 0] 25)))
      have Y_3 := Lib.hid (Y_2.out.keep ((Keep.refl _).alloc (.cells #[.bool false, .slice fa fn fc, .slice none 0 0] 25)))
      have T_3 := Lib.hid (T_2.out.keep ((Keep.refl _).alloc (.cells #[.bool false, .slice fa fn fc, .slice none 0 0] 25)))
      have B_3 := Lib.hid (B_2.out.keep ((Keep.refl _).alloc (.cells #[.bool false, .slice fa fn fc, .slice none 0 0] 25)))
      have C_3 := Lib.hid (C_2.out.keep ((Keep.refl _).alloc (.cells #[.bool false, .slice fa fn fc, .slice none 0 0] 25)))
      have R_3 := Lib.hid (R_2.out.keep ((Keep.refl _).alloc (.cells #[.bool false, .slice fa fn fc, .slice none 0 0] 25)))
      have I_3 := Lib.hid (I_2.out.keep ((Keep.refl _).alloc (.cells #[.bool false, .slice fa fn fc, .slice none 0 0] 25)))
      have P_3 := Lib.hid (P_2.out.keep ((Keep.refl _).alloc (.cells #[.bool false, .slice fa fn fc, .slice none 0 0] 25)))
      have KW_3 := Lib.hid (KW_2.out.trans ((Keep.refl _).alloc (.cells #[.bool false, .slice fa fn fc, .slice none 0 0] 25)))
      clear X_2 Y_2 T_2 B_2 C_2 R_2 I_2 P_2 KW_2
      have WB_3 := Lib.hid ((QBox.new (w1.alloc (.cells #[.bool false, .slice fa fn fc] 35)) false fa fn fc none 0 0).at (sz1 _ _))
      have WR_3 : Hid (Cr (((w1).alloc (.cells #[.bool false, .slice fa fn fc] 35)).alloc (.cells #[.bool false, .slice fa fn fc, .slice none 0 0] 25)) (.agg #[.bool false, .slice fa fn fc, .slice none 0 0]) (F : Rat)) := Lib.hid (whole_cr HF.out.1 I_3.out)
      clear P_3 I_3
      obtain ⟨B_c0, B_c1, B_c2, -, -, -, -⟩ := id B_3.out
      obtain ⟨C_c0, C_c1, C_c2, -, -, -, -⟩ := id C_3.out
      obtain ⟨R_c0, R_c1, R_c2, -, -, -, -⟩ := id R_3.out
      obtain ⟨WB_c0, WB_c1, WB_c2, -, -, -, -⟩ := id WB_3.out
      go_wp2_with fail
      refine Calls.mono (CP.out _ _ (WR_3.out.ra HRF.out) X_3.out) ?_
      rintro e w4 ⟨rfl, k4⟩
      clear B_c0 B_c1 B_c2 C_c0 C_c1 C_c2 R_c0 R_c1 R_c2 WB_c0 WB_c1 WB_c2
      have X_4 := Lib.hid (X_3.out.keep k4)
      have Y_4 := Lib.hid (Y_3.out.keep k4)
      have T_4 := Lib.hid (T_3.out.keep k4)
      have B_4 := Lib.hid (B_3.out.keep k4)
      have C_4 := Lib.hid (C_3.out.keep k4)
      have R_4 := Lib.hid (R_3.out.keep k4)
      have WB_4 := Lib.hid (WB_3.out.keep k4)
      have WR_4 := Lib.hid (WR_3.out.keep k4)
      have KW_4 := Lib.hid (KW_3.out.trans k4)
      clear k4 X_3 Y_3 T_3 B_3 C_3 R_3 WB_3 WR_3 KW_3
      clear CP
      go_upto_region 5 with fail
      go_cut [7] (fun sv wc => PBoxQ w4 0 ((F : Rat) + 1) sv wc)
      case first =>
        have SK : Hid (∀ wk : World, Keep (w4) wk → wk.cell? ⟨w1.heap.size + 1, 0, none⟩ = some (.bool false) ∧ wk.cell? ⟨w1.heap.size + 1, 1, none⟩ = some (.slice fa fn fc) ∧ wk.cell? ⟨w1.heap.size + 1, 2, none⟩ = some (.slice none 0 0)) := Lib.hid (fun wk h => ⟨(WB_4.out.keep h).c0, (WB_4.out.keep h).c1, (WB_4.out.keep h).c2⟩)
        have kS_0 : Keep (w4) (w4.drew) := (Keep.refl _).drew
        have kS_1 : Keep (w4) ((w4.alloc (.cells #[.bool false, .slice none 0 0, .slice none 0 0] 25)).drew) := ((Keep.alloc (Keep.refl _) _)).drew
        obtain ⟨cz_0, cz_1, cz_2⟩ := SK.out _ kS_0
        go_wp2
        go_region_held3 (fun w' => w'.cell? ⟨w1.heap.size + 1, 0, none⟩ = some (.bool false) ∧ w'.cell? ⟨w1.heap.size + 1, 1, none⟩ = some (.slice fa fn fc) ∧ w'.cell? ⟨w1.heap.size + 1, 2, none⟩ = some (.slice none 0 0)) (first | with_reducible exact SK.out _ kS_0 | with_reducible exact SK.out _ kS_1 | with_reducible exact SK.out _ hW_1 | with_reducible exact SK.out _ (Keep.alloc hW_1 _) | with_reducible exact SK.out _ hW_2 | with_reducible exact SK.out _ (Keep.alloc hW_2 _) | (refine SK.out _ ?_; (repeat' (first | exact Keep.refl _ | assumption | refine Keep.alloc ?_ _ | refine Keep.drew ?_ | refine keep_set ?_ (by first | exact Nat.le_refl _ | assumption | (simp <;> omega)) _ | (refine Keep.trans ?_ (by assumption))))) | go_keep)
          (first
            | (go_at_call 37; ((with_reducible refine Calls.mono (OF1.out _) ?_); rintro e v1 ⟨vO, rfl, hO, k1⟩; (have hW_1 : Keep (w4) v1 := Keep.trans kS_0 k1); (have O_r := Lib.hid hO); clear hO; (have mk_1_0 := trivial)))
            | (go_at_call 37; ((with_reducible refine Calls.mono (OF1.out _) ?_); rintro e v1 ⟨vO, rfl, hO, k1⟩; (have hW_1 : Keep (w4) v1 := Keep.trans kS_1 k1); (have O_r := Lib.hid hO); clear hO; (have mk_1_1 := trivial); (have NB_1 := Lib.hid (((QBox.new w4 false none 0 0 none 0 0).at (g' := w4.heap.size) (by first | rfl | simp)).keep (show Keep ((w4.alloc (.cells #[.bool false, .slice none 0 0, .slice none 0 0] 25))) v1 from Keep.trans (Keep.drew (Keep.refl _)) k1)))))
            | (go_at_call 9; ((have mark := mk_1_0); (with_reducible refine Calls.mono (AD.out _ _ _ ((WR_4.out.keep hW_1).ra HRF.out) (O_r.out.keep (Keep.refl _)) (T_4.out.keep hW_1)) ?_); rintro e v2 ⟨vQ, rfl, hq, k2⟩; (have hW_2 : Keep (w4) v2 := Keep.trans hW_1 k2); (have hc_1_2 : Keep v1 v2 := Keep.trans (Keep.refl _) k2); (have Q_r := Lib.hid hq); clear hq; (have mk_2_00 := trivial); obtain ⟨za, zn, zc, za', zn', zc', rfl, -⟩ := Cr.form Q_r.out; (obtain ⟨bz, hbz⟩ : ∃ b, decide (((F : Rat) + 1).num < 0) = b := ⟨_, rfl⟩); (have Q2 := Q_r.out); rw [hbz] at Q2 ⊢; (have Q3 := Lib.hid Q2); clear Q2 hbz Q_r; (have hlo : 0 ≤ v2.heap.size := Nat.zero_le _); (have FIN := Lib.hid (PBoxQ.post Q3.out hlo hW_2))))
            | (go_at_call 9; ((have mark := mk_1_0); (with_reducible refine Calls.mono (AD.out _ _ _ ((WR_4.out.keep (Keep.alloc hW_1 _)).ra HRF.out) (O_r.out.keep (Keep.alloc (Keep.refl _) _)) (T_4.out.keep (Keep.alloc hW_1 _))) ?_); rintro e v2 ⟨vQ, rfl, hq, k2⟩; (have hW_2 : Keep (w4) v2 := Keep.trans (Keep.alloc hW_1 _) k2); (have hc_1_2 : Keep v1 v2 := Keep.trans (Keep.alloc (Keep.refl _) _) k2); (have Q_r := Lib.hid hq); clear hq; (have mk_2_01 := trivial); (have NB_2 := Lib.hid (((QBox.new v1 false none 0 0 none 0 0).at (g' := v1.heap.size) (by first | rfl | simp)).keep (show Keep ((v1.alloc (.cells #[.bool false, .slice none 0 0, .slice none 0 0] 25))) v2 from Keep.trans (Keep.refl _) k2))); obtain ⟨za, zn, zc, za', zn', zc', rfl, -⟩ := Cr.form Q_r.out; (obtain ⟨bz, hbz⟩ : ∃ b, decide (((F : Rat) + 1).num < 0) = b := ⟨_, rfl⟩); (have Q2 := Q_r.out); rw [hbz] at Q2 ⊢; (have Q3 := Lib.hid Q2); clear Q2 hbz Q_r; (have hlo : 0 ≤ v1.heap.size := Nat.zero_le _); (have hgw : (w4).heap.size ≤ v1.heap.size := (by have h9 := Below.size hW_1; exact h9)); (obtain ⟨z0, z1, z2, f0, f1, f2, -⟩ := id NB_2.out); (have FIN := Lib.hid (PBoxQ.pre Q3.out NB_2.out hlo hgw hW_2))))
            | (go_at_call 9; ((have mark := mk_1_1); (with_reducible refine Calls.mono (AD.out _ _ _ ((WR_4.out.keep hW_1).ra HRF.out) (O_r.out.keep (Keep.refl _)) (T_4.out.keep hW_1)) ?_); rintro e v2 ⟨vQ, rfl, hq, k2⟩; (have hW_2 : Keep (w4) v2 := Keep.trans hW_1 k2); (have hc_1_2 : Keep v1 v2 := Keep.trans (Keep.refl _) k2); (have Q_r := Lib.hid hq); clear hq; (have mk_2_10 := trivial); (have NB_2 := Lib.hid (NB_1.out.keep (hc_1_2))); obtain ⟨za, zn, zc, za', zn', zc', rfl, -⟩ := Cr.form Q_r.out; (obtain ⟨bz, hbz⟩ : ∃ b, decide (((F : Rat) + 1).num < 0) = b := ⟨_, rfl⟩); (have Q2 := Q_r.out); rw [hbz] at Q2 ⊢; (have Q3 := Lib.hid Q2); clear Q2 hbz Q_r; (have hlo : 0 ≤ w4.heap.size := Nat.zero_le _); (have hgw : (w4).heap.size ≤ w4.heap.size := (by simp)); (obtain ⟨z0, z1, z2, f0, f1, f2, -⟩ := id NB_2.out); (have FIN := Lib.hid (PBoxQ.pre Q3.out NB_2.out hlo hgw hW_2)))))
        all_goals (go_wp2_with fail; go_meet; exact FIN.out)
      case rest =>
        obtain ⟨gNX, bNX, aNX, nNX, cNX, a'NX, n'NX, c'NX, rfl, -, hbx, hcr, kx⟩ := hcut
        obtain ⟨wx7, rfl⟩ : ∃ x : World, x = wc := ⟨_, rfl⟩
        have X_5 := Lib.hid (X_4.out.keep kx)
        have Y_5 := Lib.hid (Y_4.out.keep kx)
        have T_5 := Lib.hid (T_4.out.keep kx)
        have B_5 := Lib.hid (B_4.out.keep kx)
        have C_5 := Lib.hid (C_4.out.keep kx)
        have R_5 := Lib.hid (R_4.out.keep kx)
        have WB_5 := Lib.hid (WB_4.out.keep kx)
        have WR_5 := Lib.hid (WR_4.out.keep kx)
        have NX_5 := Lib.hid hbx
        have CNX_5 := Lib.hid hcr
        have KW_5 := Lib.hid (KW_4.out.trans kx)
        clear kx X_4 Y_4 T_4 B_4 C_4 R_4 WB_4 WR_4 hbx hcr KW_4
        obtain ⟨B_c0, B_c1, B_c2, -, -, -, -⟩ := id B_5.out
        obtain ⟨C_c0, C_c1, C_c2, -, -, -, -⟩ := id C_5.out
        obtain ⟨R_c0, R_c1, R_c2, -, -, -, -⟩ := id R_5.out
        obtain ⟨WB_c0, WB_c1, WB_c2, -, -, -, -⟩ := id WB_5.out
        obtain ⟨NX_c0, NX_c1, NX_c2, -, -, -, -⟩ := id NX_5.out
        go_wp2_with fail
        refine Calls.mono (CP2.out _ _ CNX_5.out Y_5.out) ?_
        rintro e w6 ⟨rfl, k6⟩
        clear B_c0 B_c1 B_c2 C_c0 C_c1 C_c2 R_c0 R_c1 R_c2 WB_c0 WB_c1 WB_c2 NX_c0 NX_c1 NX_c2
        have X_6 := Lib.hid (X_5.out.keep k6)
        have Y_6 := Lib.hid (Y_5.out.keep k6)
        have T_6 := Lib.hid (T_5.out.keep k6)
        have B_6 := Lib.hid (B_5.out.keep k6)
        have C_6 := Lib.hid (C_5.out.keep k6)
        have R_6 := Lib.hid (R_5.out.keep k6)
        have WB_6 := Lib.hid (WB_5.out.keep k6)
        have WR_6 := Lib.hid (WR_5.out.keep k6)
        have NX_6 := Lib.hid (NX_5.out.keep k6)
        have CNX_6 := Lib.hid (CNX_5.out.keep k6)
        have KW_6 := Lib.hid (KW_5.out.trans k6)
        clear k6 X_5 Y_5 T_5 B_5 C_5 R_5 WB_5 WR_5 NX_5 CNX_5 KW_5
        clear CP2 AD
        have hrds := (CNX_6.out).rds
        obtain ⟨FF, -, s0, s1, s2⟩ := put_of (w0 := w) hrds.1 hrds.2.1 hrds.2.2 R_6.out KW_6.out (by omega)
        have FIN := Lib.hid FF
        obtain ⟨R_c0, R_c1, R_c2, R_f0, R_f1, R_f2, -⟩ := id R_6.out
        obtain ⟨m0, m1, m2, -⟩ := id NX_6.out
        clear FF hrds
        go_wp2
        refine bodyPost_ret (v := .agg #[.bool bNX, .slice aNX nNX cNX, .slice a'NX n'NX c'NX]) (by simp [results, Tryz.results15, go_sem, s0, s1, s2]) rfl ?_
        exact FIN.out
    · rw [if_neg hc2]
      have hcF := HFLE.out
      have hF0 := HF.out.1
      obtain ⟨hl0, hl1⟩ := HLO.out
      obtain ⟨rb1, rb2⟩ := HRB.out
      have S := SmStep.mk' hl1 hF0 HFLT.out hc2
      obtain ⟨sb1, sb2, sb3, sb4⟩ := step_rb S rfl rfl rb1 rb2 hk1
      have IS := smp_is N S.pos S.le (by have := S.low; have := HDN.out; omega)
      have sb5 := smp_rb S.pos IS S.le sb3
      have hspos : 0 < smpF N (hi - (F : Rat))⁻¹ (lo - (F : Rat))⁻¹ := by have := IS.ge; have := S.pos; grind
      have sb6 := sb5.inv hk1
      have x0 := S.x0
      have y0 := S.y0
      have IH := Lib.hid (fun w1 u v (hu : Ra w1 u (hi - (F : Rat))⁻¹ k) (hv : Ra w1 v (lo - (F : Rat))⁻¹ k) (hT1 : Tab w1) => ih hu hv S.pos S.le (by have := S.low; have := HDN.out; omega) hk1 hk hT1)
      obtain ⟨sv, hsv⟩ : ∃ x, smpF N (hi - (F : Rat))⁻¹ (lo - (F : Rat))⁻¹ = x := ⟨_, rfl⟩
      rw [hsv] at IH sb5 sb6 hspos ⊢
      obtain ⟨dy, hdy⟩ : ∃ x, hi - (F : Rat) = x := ⟨_, rfl⟩
      obtain ⟨dx, hdx⟩ : ∃ x, lo - (F : Rat) = x := ⟨_, rfl⟩
      have one_div : ∀ x : Rat, ((1 : Int) : Rat) / x = x⁻¹ := fun x => by rw [Rat.div_def]; exact Rat.one_mul _
      have hone : Rb ((1 : Int) : Rat) k := rb_int (one_lt_BB hk1) hk1
      have SU1 := Lib.hid (fun w1 u (hu : Ra w1 u hi k) (v) (hv : Ra w1 v (F : Rat) k) (hT1 : Tab w1) => qsub_c hu hv (by omega) hk1 hT1)
      have SU2 := Lib.hid (fun w1 u (hu : Ra w1 u lo k) (v) (hv : Ra w1 v (F : Rat) k) (hT1 : Tab w1) => qsub_c hu hv (by omega) hk1 hT1)
      rw [hdy] at SU1 sb1 sb3 y0 IH
      rw [hdx] at SU2 sb2 sb4 x0 IH
      have DV1 := Lib.hid (fun w1 u v (hu : Ra w1 u ((1 : Int) : Rat) k) (hv : Cr w1 v dy) (hT1 : Tab w1) => qdiv_c hu (hv.ra sb1) (by omega) hk1 hT1 (by grind))
      have DV2 := Lib.hid (fun w1 u v (hu : Ra w1 u ((1 : Int) : Rat) k) (hv : Cr w1 v dx) (hT1 : Tab w1) => qdiv_c hu (hv.ra sb2) (by omega) hk1 hT1 (by grind))
      have DV3 := Lib.hid (fun w1 u v (hu : Ra w1 u ((1 : Int) : Rat) k) (hv : Cr w1 v sv) (hT1 : Tab w1) => qdiv_c hu (hv.ra sb5) (by omega) hk1 hT1 (by grind))
      rw [one_div] at DV1 DV2 DV3
      have AD2 := Lib.hid (fun w1 u v (hu : Ra w1 u (F : Rat) k) (hv : Cr w1 v sv⁻¹) (hT1 : Tab w1) => qadd_c hu (hv.ra sb6) (by omega) hk1 hT1)
      obtain ⟨q, hq⟩ : ∃ x, (F : Rat) + sv⁻¹ = x := ⟨_, rfl⟩
      rw [hq] at AD2 ⊢
      have HONE := Lib.hid hone
      have SB3 := Lib.hid (And.intro sb3 sb4)
      obtain ⟨z, hz⟩ : ∃ z, rC ((F : Rat) + 1) hi = z := ⟨_, rfl⟩
      have hzd : decide (z ≤ 0) = false := decide_eq_false (by
        rw [← hz, rC_gt (Rat.not_le.1 hc2)]; decide)
      rw [hz] at CP2
      clear hz ih hc2 S sb1 sb2 sb3 sb4 IS sb5 hspos sb6 x0 y0 hsv hdy hdx one_div hone hq hcF hF0 hl0 hl1 rb1 rb2
      go_enter Tryz.func15, Tryz.ntmps15
      obtain ⟨B_c0, B_c1, B_c2, -, -, -, -⟩ := id B_0.out
      obtain ⟨C_c0, C_c1, C_c2, -, -, -, -⟩ := id C_0.out
      obtain ⟨R_c0, R_c1, R_c2, -, -, -, -⟩ := id R_0.out
      go_wp2_with fail
      refine Calls.mono (FL.out _ X_0.out) ?_
      rintro e w1 ⟨vF, rfl, hI, k1⟩
      clear B_c0 B_c1 B_c2 C_c0 C_c1 C_c2 R_c0 R_c1 R_c2
      have X_1 := Lib.hid (X_0.out.keep k1)
      have Y_1 := Lib.hid (Y_0.out.keep k1)
      have T_1 := Lib.hid (T_0.out.keep k1)
      have B_1 := Lib.hid (B_0.out.keep k1)
      have C_1 := Lib.hid (C_0.out.keep k1)
      have R_1 := Lib.hid (R_0.out.keep k1)
      have I_1 := Lib.hid hI
      have KW_1 := Lib.hid (KW_0.out.trans k1)
      clear k1 X_0 Y_0 T_0 B_0 C_0 R_0 hI KW_0
      obtain ⟨fa, fn, fc, rfl, -, -⟩ := I_1.out.form'
      have hfz : decide (F < 0) = false := decide_eq_false (by have := HF.out.1; omega)
      rw [hfz]
      have I_50 := Lib.hid (I_1.out)
      rw [hfz] at I_50
      clear hfz
      have X_2 := Lib.hid (X_1.out.keep ((Keep.refl _).alloc (.cells #[.bool false, .slice fa fn fc] 35)))
      have Y_2 := Lib.hid (Y_1.out.keep ((Keep.refl _).alloc (.cells #[.bool false, .slice fa fn fc] 35)))
      have T_2 := Lib.hid (T_1.out.keep ((Keep.refl _).alloc (.cells #[.bool false, .slice fa fn fc] 35)))
      have B_2 := Lib.hid (B_1.out.keep ((Keep.refl _).alloc (.cells #[.bool false, .slice fa fn fc] 35)))
      have C_2 := Lib.hid (C_1.out.keep ((Keep.refl _).alloc (.cells #[.bool false, .slice fa fn fc] 35)))
      have R_2 := Lib.hid (R_1.out.keep ((Keep.refl _).alloc (.cells #[.bool false, .slice fa fn fc] 35)))
      have I_2 := Lib.hid (I_50.out.keep ((Keep.refl _).alloc (.cells #[.bool false, .slice fa fn fc] 35)))
      have KW_2 := Lib.hid (KW_1.out.trans ((Keep.refl _).alloc (.cells #[.bool false, .slice fa fn fc] 35)))
      clear X_1 Y_1 T_1 B_1 C_1 R_1 I_50 KW_1
      have P_2 := Lib.hid (RBox.new w1 false fa fn fc)
      have X_3 := Lib.hid (X_2.out.keep ((Keep.refl _).alloc (.cells #[.bool false, .slice fa fn fc, .slice none 0 0] 25)))
      have Y_3 := Lib.hid (Y_2.out.keep ((Keep.refl _).alloc (.cells #[.bool false, .slice fa fn fc, .slice none 0 0] 25)))
      have T_3 := Lib.hid (T_2.out.keep ((Keep.refl _).alloc (.cells #[.bool false, .slice fa fn fc, .slice none 0 0] 25)))
      have B_3 := Lib.hid (B_2.out.keep ((Keep.refl _).alloc (.cells #[.bool false, .slice fa fn fc, .slice none 0 0] 25)))
      have C_3 := Lib.hid (C_2.out.keep ((Keep.refl _).alloc (.cells #[.bool false, .slice fa fn fc, .slice none 0 0] 25)))
      have R_3 := Lib.hid (R_2.out.keep ((Keep.refl _).alloc (.cells #[.bool false, .slice fa fn fc, .slice none 0 0] 25)))
      have I_3 := Lib.hid (I_2.out.keep ((Keep.refl _).alloc (.cells #[.bool false, .slice fa fn fc, .slice none 0 0] 25)))
      have P_3 := Lib.hid (P_2.out.keep ((Keep.refl _).alloc (.cells #[.bool false, .slice fa fn fc, .slice none 0 0] 25)))
      have KW_3 := Lib.hid (KW_2.out.trans ((Keep.refl _).alloc (.cells #[.bool false, .slice fa fn fc, .slice none 0 0] 25)))
      clear X_2 Y_2 T_2 B_2 C_2 R_2 I_2 P_2 KW_2
      have WB_3 := Lib.hid ((QBox.new (w1.alloc (.cells #[.bool false, .slice fa fn fc] 35)) false fa fn fc none 0 0).at (sz1 _ _))
      have WR_3 : Hid (Cr (((w1).alloc (.cells #[.bool false, .slice fa fn fc] 35)).alloc (.cells #[.bool false, .slice fa fn fc, .slice none 0 0] 25)) (.agg #[.bool false, .slice fa fn fc, .slice none 0 0]) (F : Rat)) := Lib.hid (whole_cr HF.out.1 I_3.out)
      clear P_3 I_3
      obtain ⟨B_c0, B_c1, B_c2, -, -, -, -⟩ := id B_3.out
      obtain ⟨C_c0, C_c1, C_c2, -, -, -, -⟩ := id C_3.out
      obtain ⟨R_c0, R_c1, R_c2, -, -, -, -⟩ := id R_3.out
      obtain ⟨WB_c0, WB_c1, WB_c2, -, -, -, -⟩ := id WB_3.out
      go_wp2_with fail
      refine Calls.mono (CP.out _ _ (WR_3.out.ra HRF.out) X_3.out) ?_
      rintro e w4 ⟨rfl, k4⟩
      clear B_c0 B_c1 B_c2 C_c0 C_c1 C_c2 R_c0 R_c1 R_c2 WB_c0 WB_c1 WB_c2
      have X_4 := Lib.hid (X_3.out.keep k4)
      have Y_4 := Lib.hid (Y_3.out.keep k4)
      have T_4 := Lib.hid (T_3.out.keep k4)
      have B_4 := Lib.hid (B_3.out.keep k4)
      have C_4 := Lib.hid (C_3.out.keep k4)
      have R_4 := Lib.hid (R_3.out.keep k4)
      have WB_4 := Lib.hid (WB_3.out.keep k4)
      have WR_4 := Lib.hid (WR_3.out.keep k4)
      have KW_4 := Lib.hid (KW_3.out.trans k4)
      clear k4 X_3 Y_3 T_3 B_3 C_3 R_3 WB_3 WR_3 KW_3
      clear CP
      go_upto_region 5 with fail
      go_cut [7] (fun vv wc => PBoxQ w4 0 ((F : Rat) + 1) vv wc)
      case first =>
        have SK : Hid (∀ wk : World, Keep (w4) wk → wk.cell? ⟨w1.heap.size + 1, 0, none⟩ = some (.bool false) ∧ wk.cell? ⟨w1.heap.size + 1, 1, none⟩ = some (.slice fa fn fc) ∧ wk.cell? ⟨w1.heap.size + 1, 2, none⟩ = some (.slice none 0 0)) := Lib.hid (fun wk h => ⟨(WB_4.out.keep h).c0, (WB_4.out.keep h).c1, (WB_4.out.keep h).c2⟩)
        have kS_0 : Keep (w4) (w4.drew) := (Keep.refl _).drew
        have kS_1 : Keep (w4) ((w4.alloc (.cells #[.bool false, .slice none 0 0, .slice none 0 0] 25)).drew) := ((Keep.alloc (Keep.refl _) _)).drew
        obtain ⟨cz_0, cz_1, cz_2⟩ := SK.out _ kS_0
        go_wp2
        go_region_held3 (fun w' => w'.cell? ⟨w1.heap.size + 1, 0, none⟩ = some (.bool false) ∧ w'.cell? ⟨w1.heap.size + 1, 1, none⟩ = some (.slice fa fn fc) ∧ w'.cell? ⟨w1.heap.size + 1, 2, none⟩ = some (.slice none 0 0)) (first | with_reducible exact SK.out _ kS_0 | with_reducible exact SK.out _ kS_1 | with_reducible exact SK.out _ hW_1 | with_reducible exact SK.out _ (Keep.alloc hW_1 _) | with_reducible exact SK.out _ hW_2 | with_reducible exact SK.out _ (Keep.alloc hW_2 _) | (refine SK.out _ ?_; (repeat' (first | exact Keep.refl _ | assumption | refine Keep.alloc ?_ _ | refine Keep.drew ?_ | refine keep_set ?_ (by first | exact Nat.le_refl _ | assumption | (simp <;> omega)) _ | (refine Keep.trans ?_ (by assumption))))) | go_keep)
          (first
            | (go_at_call 37; ((with_reducible refine Calls.mono (OF1.out _) ?_); rintro e v1 ⟨vO, rfl, hO, k1⟩; (have hW_1 : Keep (w4) v1 := Keep.trans kS_0 k1); (have O_r := Lib.hid hO); clear hO; (have mk_1_0 := trivial)))
            | (go_at_call 37; ((with_reducible refine Calls.mono (OF1.out _) ?_); rintro e v1 ⟨vO, rfl, hO, k1⟩; (have hW_1 : Keep (w4) v1 := Keep.trans kS_1 k1); (have O_r := Lib.hid hO); clear hO; (have mk_1_1 := trivial); (have NB_1 := Lib.hid (((QBox.new w4 false none 0 0 none 0 0).at (g' := w4.heap.size) (by first | rfl | simp)).keep (show Keep ((w4.alloc (.cells #[.bool false, .slice none 0 0, .slice none 0 0] 25))) v1 from Keep.trans (Keep.drew (Keep.refl _)) k1)))))
            | (go_at_call 9; ((have mark := mk_1_0); (with_reducible refine Calls.mono (AD.out _ _ _ ((WR_4.out.keep hW_1).ra HRF.out) (O_r.out.keep (Keep.refl _)) (T_4.out.keep hW_1)) ?_); rintro e v2 ⟨vQ, rfl, hq, k2⟩; (have hW_2 : Keep (w4) v2 := Keep.trans hW_1 k2); (have hc_1_2 : Keep v1 v2 := Keep.trans (Keep.refl _) k2); (have Q_r := Lib.hid hq); clear hq; (have mk_2_00 := trivial); obtain ⟨za, zn, zc, za', zn', zc', rfl, -⟩ := Cr.form Q_r.out; (obtain ⟨bz, hbz⟩ : ∃ b, decide (((F : Rat) + 1).num < 0) = b := ⟨_, rfl⟩); (have Q2 := Q_r.out); rw [hbz] at Q2 ⊢; (have Q3 := Lib.hid Q2); clear Q2 hbz Q_r; (have hlo : 0 ≤ v2.heap.size := Nat.zero_le _); (have FIN := Lib.hid (PBoxQ.post Q3.out hlo hW_2))))
            | (go_at_call 9; ((have mark := mk_1_0); (with_reducible refine Calls.mono (AD.out _ _ _ ((WR_4.out.keep (Keep.alloc hW_1 _)).ra HRF.out) (O_r.out.keep (Keep.alloc (Keep.refl _) _)) (T_4.out.keep (Keep.alloc hW_1 _))) ?_); rintro e v2 ⟨vQ, rfl, hq, k2⟩; (have hW_2 : Keep (w4) v2 := Keep.trans (Keep.alloc hW_1 _) k2); (have hc_1_2 : Keep v1 v2 := Keep.trans (Keep.alloc (Keep.refl _) _) k2); (have Q_r := Lib.hid hq); clear hq; (have mk_2_01 := trivial); (have NB_2 := Lib.hid (((QBox.new v1 false none 0 0 none 0 0).at (g' := v1.heap.size) (by first | rfl | simp)).keep (show Keep ((v1.alloc (.cells #[.bool false, .slice none 0 0, .slice none 0 0] 25))) v2 from Keep.trans (Keep.refl _) k2))); obtain ⟨za, zn, zc, za', zn', zc', rfl, -⟩ := Cr.form Q_r.out; (obtain ⟨bz, hbz⟩ : ∃ b, decide (((F : Rat) + 1).num < 0) = b := ⟨_, rfl⟩); (have Q2 := Q_r.out); rw [hbz] at Q2 ⊢; (have Q3 := Lib.hid Q2); clear Q2 hbz Q_r; (have hlo : 0 ≤ v1.heap.size := Nat.zero_le _); (have hgw : (w4).heap.size ≤ v1.heap.size := (by have h9 := Below.size hW_1; exact h9)); (obtain ⟨z0, z1, z2, f0, f1, f2, -⟩ := id NB_2.out); (have FIN := Lib.hid (PBoxQ.pre Q3.out NB_2.out hlo hgw hW_2))))
            | (go_at_call 9; ((have mark := mk_1_1); (with_reducible refine Calls.mono (AD.out _ _ _ ((WR_4.out.keep hW_1).ra HRF.out) (O_r.out.keep (Keep.refl _)) (T_4.out.keep hW_1)) ?_); rintro e v2 ⟨vQ, rfl, hq, k2⟩; (have hW_2 : Keep (w4) v2 := Keep.trans hW_1 k2); (have hc_1_2 : Keep v1 v2 := Keep.trans (Keep.refl _) k2); (have Q_r := Lib.hid hq); clear hq; (have mk_2_10 := trivial); (have NB_2 := Lib.hid (NB_1.out.keep (hc_1_2))); obtain ⟨za, zn, zc, za', zn', zc', rfl, -⟩ := Cr.form Q_r.out; (obtain ⟨bz, hbz⟩ : ∃ b, decide (((F : Rat) + 1).num < 0) = b := ⟨_, rfl⟩); (have Q2 := Q_r.out); rw [hbz] at Q2 ⊢; (have Q3 := Lib.hid Q2); clear Q2 hbz Q_r; (have hlo : 0 ≤ w4.heap.size := Nat.zero_le _); (have hgw : (w4).heap.size ≤ w4.heap.size := (by simp)); (obtain ⟨z0, z1, z2, f0, f1, f2, -⟩ := id NB_2.out); (have FIN := Lib.hid (PBoxQ.pre Q3.out NB_2.out hlo hgw hW_2)))))
        all_goals (go_wp2_with fail; go_meet; exact FIN.out)
      case rest =>
        obtain ⟨gNX, bNX, aNX, nNX, cNX, a'NX, n'NX, c'NX, rfl, -, hbx, hcr, kx⟩ := hcut
        obtain ⟨wx7, rfl⟩ : ∃ x : World, x = wc := ⟨_, rfl⟩
        have X_5 := Lib.hid (X_4.out.keep kx)
        have Y_5 := Lib.hid (Y_4.out.keep kx)
        have T_5 := Lib.hid (T_4.out.keep kx)
        have B_5 := Lib.hid (B_4.out.keep kx)
        have C_5 := Lib.hid (C_4.out.keep kx)
        have R_5 := Lib.hid (R_4.out.keep kx)
        have WB_5 := Lib.hid (WB_4.out.keep kx)
        have WR_5 := Lib.hid (WR_4.out.keep kx)
        have NX_5 := Lib.hid hbx
        have CNX_5 := Lib.hid hcr
        have KW_5 := Lib.hid (KW_4.out.trans kx)
        clear kx X_4 Y_4 T_4 B_4 C_4 R_4 WB_4 WR_4 hbx hcr KW_4
        obtain ⟨B_c0, B_c1, B_c2, -, -, -, -⟩ := id B_5.out
        obtain ⟨C_c0, C_c1, C_c2, -, -, -, -⟩ := id C_5.out
        obtain ⟨R_c0, R_c1, R_c2, -, -, -, -⟩ := id R_5.out
        obtain ⟨WB_c0, WB_c1, WB_c2, -, -, -, -⟩ := id WB_5.out
        obtain ⟨NX_c0, NX_c1, NX_c2, -, -, -, -⟩ := id NX_5.out
        go_wp2_with fail
        refine Calls.mono (CP2.out _ _ CNX_5.out Y_5.out) ?_
        rintro e w6 ⟨rfl, k6⟩
        clear B_c0 B_c1 B_c2 C_c0 C_c1 C_c2 R_c0 R_c1 R_c2 WB_c0 WB_c1 WB_c2 NX_c0 NX_c1 NX_c2
        have X_6 := Lib.hid (X_5.out.keep k6)
        have Y_6 := Lib.hid (Y_5.out.keep k6)
        have T_6 := Lib.hid (T_5.out.keep k6)
        have B_6 := Lib.hid (B_5.out.keep k6)
        have C_6 := Lib.hid (C_5.out.keep k6)
        have R_6 := Lib.hid (R_5.out.keep k6)
        have WB_6 := Lib.hid (WB_5.out.keep k6)
        have WR_6 := Lib.hid (WR_5.out.keep k6)
        have NX_6 := Lib.hid (NX_5.out.keep k6)
        have CNX_6 := Lib.hid (CNX_5.out.keep k6)
        have KW_6 := Lib.hid (KW_5.out.trans k6)
        clear k6 X_5 Y_5 T_5 B_5 C_5 R_5 WB_5 WR_5 NX_5 CNX_5 KW_5
        clear CP2 AD
        clear NX_6 CNX_6
        obtain ⟨B_c0, B_c1, B_c2, -, -, -, -⟩ := id B_6.out
        obtain ⟨C_c0, C_c1, C_c2, -, -, -, -⟩ := id C_6.out
        obtain ⟨R_c0, R_c1, R_c2, -, -, -, -⟩ := id R_6.out
        obtain ⟨WB_c0, WB_c1, WB_c2, -, -, -, -⟩ := id WB_6.out
        go_wp2_with fail
        refine Calls.mono (OF1.out _) ?_
        rintro e w7 ⟨vO, rfl, hO, k7⟩
        clear B_c0 B_c1 B_c2 C_c0 C_c1 C_c2 R_c0 R_c1 R_c2 WB_c0 WB_c1 WB_c2
        have X_7 := Lib.hid (X_6.out.keep k7)
        have Y_7 := Lib.hid (Y_6.out.keep k7)
        have T_7 := Lib.hid (T_6.out.keep k7)
        have B_7 := Lib.hid (B_6.out.keep k7)
        have C_7 := Lib.hid (C_6.out.keep k7)
        have R_7 := Lib.hid (R_6.out.keep k7)
        have WB_7 := Lib.hid (WB_6.out.keep k7)
        have WR_7 := Lib.hid (WR_6.out.keep k7)
        have O_7 := Lib.hid hO
        have KW_7 := Lib.hid (KW_6.out.trans k7)
        clear k7 X_6 Y_6 T_6 B_6 C_6 R_6 WB_6 WR_6 hO KW_6
        obtain ⟨oa, on_, oc, oa', on', oc', rfl, -⟩ := Cr.form O_7.out
        have O_90 := O_7.out
        obtain ⟨ob, hob⟩ : ∃ b, decide (((1 : Int) : Rat).num < 0) = b := ⟨_, rfl⟩
        rw [hob] at O_90 ⊢
        have O_91 := Lib.hid O_90
        clear O_90 hob O_7
        have X_8 := Lib.hid (X_7.out.keep ((Keep.refl _).alloc (.cells #[.bool ob, .slice oa on_ oc, .slice oa' on' oc'] 25)))
        have Y_8 := Lib.hid (Y_7.out.keep ((Keep.refl _).alloc (.cells #[.bool ob, .slice oa on_ oc, .slice oa' on' oc'] 25)))
        have T_8 := Lib.hid (T_7.out.keep ((Keep.refl _).alloc (.cells #[.bool ob, .slice oa on_ oc, .slice oa' on' oc'] 25)))
        have B_8 := Lib.hid (B_7.out.keep ((Keep.refl _).alloc (.cells #[.bool ob, .slice oa on_ oc, .slice oa' on' oc'] 25)))
        have C_8 := Lib.hid (C_7.out.keep ((Keep.refl _).alloc (.cells #[.bool ob, .slice oa on_ oc, .slice oa' on' oc'] 25)))
        have R_8 := Lib.hid (R_7.out.keep ((Keep.refl _).alloc (.cells #[.bool ob, .slice oa on_ oc, .slice oa' on' oc'] 25)))
        have WB_8 := Lib.hid (WB_7.out.keep ((Keep.refl _).alloc (.cells #[.bool ob, .slice oa on_ oc, .slice oa' on' oc'] 25)))
        have WR_8 := Lib.hid (WR_7.out.keep ((Keep.refl _).alloc (.cells #[.bool ob, .slice oa on_ oc, .slice oa' on' oc'] 25)))
        have O_8 := Lib.hid (O_91.out.keep ((Keep.refl _).alloc (.cells #[.bool ob, .slice oa on_ oc, .slice oa' on' oc'] 25)))
        have KW_8 := Lib.hid (KW_7.out.trans ((Keep.refl _).alloc (.cells #[.bool ob, .slice oa on_ oc, .slice oa' on' oc'] 25)))
        clear X_7 Y_7 T_7 B_7 C_7 R_7 WB_7 WR_7 O_91 KW_7
        have OB_8 := Lib.hid (QBox.new w7 ob oa on_ oc oa' on' oc')
        go_upto_region 9 with fail
        go_cut [9] (fun vv wc => PBoxQ (w7.alloc (.cells #[.bool ob, .slice oa on_ oc, .slice oa' on' oc'] 25)) 0 (dy⁻¹) vv wc)
        case first =>
          have SK : Hid (∀ wk : World, Keep ((w7.alloc (.cells #[.bool ob, .slice oa on_ oc, .slice oa' on' oc'] 25))) wk → wk.cell? ⟨w7.heap.size, 0, none⟩ = some (.bool ob) ∧ wk.cell? ⟨w7.heap.size, 1, none⟩ = some (.slice oa on_ oc) ∧ wk.cell? ⟨w7.heap.size, 2, none⟩ = some (.slice oa' on' oc') ∧ wk.cell? ⟨w.heap.size + 1, 0, none⟩ = some (.bool t) ∧ wk.cell? ⟨w.heap.size + 1, 1, none⟩ = some (.slice b m g) ∧ wk.cell? ⟨w.heap.size + 1, 2, none⟩ = some (.slice b' m' g') ∧ wk.cell? ⟨w1.heap.size + 1, 0, none⟩ = some (.bool false) ∧ wk.cell? ⟨w1.heap.size + 1, 1, none⟩ = some (.slice fa fn fc) ∧ wk.cell? ⟨w1.heap.size + 1, 2, none⟩ = some (.slice none 0 0)) := Lib.hid (fun wk h => ⟨(OB_8.out.keep h).c0, (OB_8.out.keep h).c1, (OB_8.out.keep h).c2, (C_8.out.keep h).c0, (C_8.out.keep h).c1, (C_8.out.keep h).c2, (WB_8.out.keep h).c0, (WB_8.out.keep h).c1, (WB_8.out.keep h).c2⟩)
          have kS_0 : Keep ((w7.alloc (.cells #[.bool ob, .slice oa on_ oc, .slice oa' on' oc'] 25))) ((w7.alloc (.cells #[.bool ob, .slice oa on_ oc, .slice oa' on' oc'] 25)).drew) := (Keep.refl _).drew
          have kS_1 : Keep ((w7.alloc (.cells #[.bool ob, .slice oa on_ oc, .slice oa' on' oc'] 25))) (((w7.alloc (.cells #[.bool ob, .slice oa on_ oc, .slice oa' on' oc'] 25)).alloc (.cells #[.bool false, .slice none 0 0, .slice none 0 0] 25)).drew) := ((Keep.alloc (Keep.refl _) _)).drew
          obtain ⟨cz_0, cz_1, cz_2, cz_3, cz_4, cz_5, cz_6, cz_7, cz_8⟩ := SK.out _ kS_0
          go_wp2
          go_region_held3 (fun w' => w'.cell? ⟨w7.heap.size, 0, none⟩ = some (.bool ob) ∧ w'.cell? ⟨w7.heap.size, 1, none⟩ = some (.slice oa on_ oc) ∧ w'.cell? ⟨w7.heap.size, 2, none⟩ = some (.slice oa' on' oc') ∧ w'.cell? ⟨w.heap.size + 1, 0, none⟩ = some (.bool t) ∧ w'.cell? ⟨w.heap.size + 1, 1, none⟩ = some (.slice b m g) ∧ w'.cell? ⟨w.heap.size + 1, 2, none⟩ = some (.slice b' m' g') ∧ w'.cell? ⟨w1.heap.size + 1, 0, none⟩ = some (.bool false) ∧ w'.cell? ⟨w1.heap.size + 1, 1, none⟩ = some (.slice fa fn fc) ∧ w'.cell? ⟨w1.heap.size + 1, 2, none⟩ = some (.slice none 0 0)) (first | with_reducible exact SK.out _ kS_0 | with_reducible exact SK.out _ kS_1 | with_reducible exact SK.out _ hW_1 | with_reducible exact SK.out _ (Keep.alloc hW_1 _) | with_reducible exact SK.out _ hW_2 | with_reducible exact SK.out _ (Keep.alloc hW_2 _) | (refine SK.out _ ?_; (repeat' (first | exact Keep.refl _ | assumption | refine Keep.alloc ?_ _ | refine Keep.drew ?_ | refine keep_set ?_ (by first | exact Nat.le_refl _ | assumption | (simp <;> omega)) _ | (refine Keep.trans ?_ (by assumption))))) | go_keep)
            (first
              | (go_at_call 39; ((with_reducible refine Calls.mono (SU1.out _ _ (Y_8.out.keep kS_0) _ ((WR_8.out.keep kS_0).ra HRF.out) (T_8.out.keep kS_0)) ?_); rintro e v1 ⟨vS, rfl, hS, k1⟩; (have hW_1 : Keep ((w7.alloc (.cells #[.bool ob, .slice oa on_ oc, .slice oa' on' oc'] 25))) v1 := Keep.trans kS_0 k1); (have S_r := Lib.hid hS); clear hS; (have mk_1_0 := trivial); obtain ⟨sa, sn, sc, sa', sn', sc', rfl, -⟩ := Cr.form S_r.out))
              | (go_at_call 39; ((with_reducible refine Calls.mono (SU1.out _ _ (Y_8.out.keep kS_1) _ ((WR_8.out.keep kS_1).ra HRF.out) (T_8.out.keep kS_1)) ?_); rintro e v1 ⟨vS, rfl, hS, k1⟩; (have hW_1 : Keep ((w7.alloc (.cells #[.bool ob, .slice oa on_ oc, .slice oa' on' oc'] 25))) v1 := Keep.trans kS_1 k1); (have S_r := Lib.hid hS); clear hS; (have mk_1_1 := trivial); obtain ⟨sa, sn, sc, sa', sn', sc', rfl, -⟩ := Cr.form S_r.out; (have NB_1 := Lib.hid (((QBox.new (w7.alloc (.cells #[.bool ob, .slice oa on_ oc, .slice oa' on' oc'] 25)) false none 0 0 none 0 0).at (g' := w7.heap.size + 1) (by first | rfl | simp)).keep (show Keep (((w7.alloc (.cells #[.bool ob, .slice oa on_ oc, .slice oa' on' oc'] 25)).alloc (.cells #[.bool false, .slice none 0 0, .slice none 0 0] 25))) v1 from Keep.trans (Keep.drew (Keep.refl _)) k1)))))
              | (go_at_call 38; ((have mark := mk_1_0); (with_reducible refine Calls.mono (DV1.out _ _ _ ((O_8.out.keep hW_1).ra HONE.out) (S_r.out.keep (Keep.refl _)) (T_8.out.keep hW_1)) ?_); rintro e v2 ⟨vQ, rfl, hq, k2⟩; (have hW_2 : Keep ((w7.alloc (.cells #[.bool ob, .slice oa on_ oc, .slice oa' on' oc'] 25))) v2 := Keep.trans hW_1 k2); (have hc_1_2 : Keep v1 v2 := Keep.trans (Keep.refl _) k2); (have Q_r := Lib.hid hq); clear hq; (have mk_2_00 := trivial); obtain ⟨za, zn, zc, za', zn', zc', rfl, -⟩ := Cr.form Q_r.out; (obtain ⟨bz, hbz⟩ : ∃ b, decide ((dy⁻¹).num < 0) = b := ⟨_, rfl⟩); (have Q2 := Q_r.out); rw [hbz] at Q2 ⊢; (have Q3 := Lib.hid Q2); clear Q2 hbz Q_r; (have hlo : 0 ≤ v2.heap.size := Nat.zero_le _); (have FIN := Lib.hid (PBoxQ.post Q3.out hlo hW_2))))
              | (go_at_call 38; ((have mark := mk_1_0); (with_reducible refine Calls.mono (DV1.out _ _ _ ((O_8.out.keep (Keep.alloc hW_1 _)).ra HONE.out) (S_r.out.keep (Keep.alloc (Keep.refl _) _)) (T_8.out.keep (Keep.alloc hW_1 _))) ?_); rintro e v2 ⟨vQ, rfl, hq, k2⟩; (have hW_2 : Keep ((w7.alloc (.cells #[.bool ob, .slice oa on_ oc, .slice oa' on' oc'] 25))) v2 := Keep.trans (Keep.alloc hW_1 _) k2); (have hc_1_2 : Keep v1 v2 := Keep.trans (Keep.alloc (Keep.refl _) _) k2); (have Q_r := Lib.hid hq); clear hq; (have mk_2_01 := trivial); (have NB_2 := Lib.hid (((QBox.new v1 false none 0 0 none 0 0).at (g' := v1.heap.size) (by first | rfl | simp)).keep (show Keep ((v1.alloc (.cells #[.bool false, .slice none 0 0, .slice none 0 0] 25))) v2 from Keep.trans (Keep.refl _) k2))); obtain ⟨za, zn, zc, za', zn', zc', rfl, -⟩ := Cr.form Q_r.out; (obtain ⟨bz, hbz⟩ : ∃ b, decide ((dy⁻¹).num < 0) = b := ⟨_, rfl⟩); (have Q2 := Q_r.out); rw [hbz] at Q2 ⊢; (have Q3 := Lib.hid Q2); clear Q2 hbz Q_r; (have hlo : 0 ≤ v1.heap.size := Nat.zero_le _); (have hgw : ((w7.alloc (.cells #[.bool ob, .slice oa on_ oc, .slice oa' on' oc'] 25))).heap.size ≤ v1.heap.size := (by have h9 := Below.size hW_1; exact h9)); (obtain ⟨z0, z1, z2, f0, f1, f2, -⟩ := id NB_2.out); (have FIN := Lib.hid (PBoxQ.pre Q3.out NB_2.out hlo hgw hW_2))))
              | (go_at_call 38; ((have mark := mk_1_1); (with_reducible refine Calls.mono (DV1.out _ _ _ ((O_8.out.keep hW_1).ra HONE.out) (S_r.out.keep (Keep.refl _)) (T_8.out.keep hW_1)) ?_); rintro e v2 ⟨vQ, rfl, hq, k2⟩; (have hW_2 : Keep ((w7.alloc (.cells #[.bool ob, .slice oa on_ oc, .slice oa' on' oc'] 25))) v2 := Keep.trans hW_1 k2); (have hc_1_2 : Keep v1 v2 := Keep.trans (Keep.refl _) k2); (have Q_r := Lib.hid hq); clear hq; (have mk_2_10 := trivial); (have NB_2 := Lib.hid (NB_1.out.keep (hc_1_2))); obtain ⟨za, zn, zc, za', zn', zc', rfl, -⟩ := Cr.form Q_r.out; (obtain ⟨bz, hbz⟩ : ∃ b, decide ((dy⁻¹).num < 0) = b := ⟨_, rfl⟩); (have Q2 := Q_r.out); rw [hbz] at Q2 ⊢; (have Q3 := Lib.hid Q2); clear Q2 hbz Q_r; (have hlo : 0 ≤ w7.heap.size + 1 := Nat.zero_le _); (have hgw : ((w7.alloc (.cells #[.bool ob, .slice oa on_ oc, .slice oa' on' oc'] 25))).heap.size ≤ w7.heap.size + 1 := (by simp)); (obtain ⟨z0, z1, z2, f0, f1, f2, -⟩ := id NB_2.out); (have FIN := Lib.hid (PBoxQ.pre Q3.out NB_2.out hlo hgw hW_2)))))
          all_goals (go_wp2_with fail; go_meet; exact FIN.out)
        case rest =>
          obtain ⟨gLB, bLB, aLB, nLB, cLB, a'LB, n'LB, c'LB, rfl, -, hbx, hcr, kx⟩ := hcut
          obtain ⟨wx9, rfl⟩ : ∃ x : World, x = wc := ⟨_, rfl⟩
          have X_9 := Lib.hid (X_8.out.keep kx)
          have Y_9 := Lib.hid (Y_8.out.keep kx)
          have T_9 := Lib.hid (T_8.out.keep kx)
          have B_9 := Lib.hid (B_8.out.keep kx)
          have C_9 := Lib.hid (C_8.out.keep kx)
          have R_9 := Lib.hid (R_8.out.keep kx)
          have WB_9 := Lib.hid (WB_8.out.keep kx)
          have WR_9 := Lib.hid (WR_8.out.keep kx)
          have O_9 := Lib.hid (O_8.out.keep kx)
          have OB_9 := Lib.hid (OB_8.out.keep kx)
          have LB_9 := Lib.hid hbx
          have CLB_9 := Lib.hid hcr
          have KW_9 := Lib.hid (KW_8.out.trans kx)
          clear kx X_8 Y_8 T_8 B_8 C_8 R_8 WB_8 WR_8 O_8 OB_8 hbx hcr KW_8
          go_upto_region 10 with fail
          go_cut [11] (fun vv wc => PBoxQ wx9 0 (dx⁻¹) vv wc)
          case first =>
            have SK : Hid (∀ wk : World, Keep (wx9) wk → wk.cell? ⟨w7.heap.size, 0, none⟩ = some (.bool ob) ∧ wk.cell? ⟨w7.heap.size, 1, none⟩ = some (.slice oa on_ oc) ∧ wk.cell? ⟨w7.heap.size, 2, none⟩ = some (.slice oa' on' oc') ∧ wk.cell? ⟨w.heap.size, 0, none⟩ = some (.bool s) ∧ wk.cell? ⟨w.heap.size, 1, none⟩ = some (.slice a n c) ∧ wk.cell? ⟨w.heap.size, 2, none⟩ = some (.slice a' n' c') ∧ wk.cell? ⟨w1.heap.size + 1, 0, none⟩ = some (.bool false) ∧ wk.cell? ⟨w1.heap.size + 1, 1, none⟩ = some (.slice fa fn fc) ∧ wk.cell? ⟨w1.heap.size + 1, 2, none⟩ = some (.slice none 0 0)) := Lib.hid (fun wk h => ⟨(OB_9.out.keep h).c0, (OB_9.out.keep h).c1, (OB_9.out.keep h).c2, (B_9.out.keep h).c0, (B_9.out.keep h).c1, (B_9.out.keep h).c2, (WB_9.out.keep h).c0, (WB_9.out.keep h).c1, (WB_9.out.keep h).c2⟩)
            have kS_0 : Keep (wx9) (wx9.drew) := (Keep.refl _).drew
            have kS_1 : Keep (wx9) ((wx9.alloc (.cells #[.bool false, .slice none 0 0, .slice none 0 0] 25)).drew) := ((Keep.alloc (Keep.refl _) _)).drew
            obtain ⟨cz_0, cz_1, cz_2, cz_3, cz_4, cz_5, cz_6, cz_7, cz_8⟩ := SK.out _ kS_0
            go_wp2
            go_region_held3 (fun w' => w'.cell? ⟨w7.heap.size, 0, none⟩ = some (.bool ob) ∧ w'.cell? ⟨w7.heap.size, 1, none⟩ = some (.slice oa on_ oc) ∧ w'.cell? ⟨w7.heap.size, 2, none⟩ = some (.slice oa' on' oc') ∧ w'.cell? ⟨w.heap.size, 0, none⟩ = some (.bool s) ∧ w'.cell? ⟨w.heap.size, 1, none⟩ = some (.slice a n c) ∧ w'.cell? ⟨w.heap.size, 2, none⟩ = some (.slice a' n' c') ∧ w'.cell? ⟨w1.heap.size + 1, 0, none⟩ = some (.bool false) ∧ w'.cell? ⟨w1.heap.size + 1, 1, none⟩ = some (.slice fa fn fc) ∧ w'.cell? ⟨w1.heap.size + 1, 2, none⟩ = some (.slice none 0 0)) (first | with_reducible exact SK.out _ kS_0 | with_reducible exact SK.out _ kS_1 | with_reducible exact SK.out _ hW_1 | with_reducible exact SK.out _ (Keep.alloc hW_1 _) | with_reducible exact SK.out _ hW_2 | with_reducible exact SK.out _ (Keep.alloc hW_2 _) | (refine SK.out _ ?_; (repeat' (first | exact Keep.refl _ | assumption | refine Keep.alloc ?_ _ | refine Keep.drew ?_ | refine keep_set ?_ (by first | exact Nat.le_refl _ | assumption | (simp <;> omega)) _ | (refine Keep.trans ?_ (by assumption))))) | go_keep)
              (first
                | (go_at_call 39; ((with_reducible refine Calls.mono (SU2.out _ _ (X_9.out.keep kS_0) _ ((WR_9.out.keep kS_0).ra HRF.out) (T_9.out.keep kS_0)) ?_); rintro e v1 ⟨vS, rfl, hS, k1⟩; (have hW_1 : Keep (wx9) v1 := Keep.trans kS_0 k1); (have S_r := Lib.hid hS); clear hS; (have mk_1_0 := trivial); obtain ⟨sa, sn, sc, sa', sn', sc', rfl, -⟩ := Cr.form S_r.out))
                | (go_at_call 39; ((with_reducible refine Calls.mono (SU2.out _ _ (X_9.out.keep kS_1) _ ((WR_9.out.keep kS_1).ra HRF.out) (T_9.out.keep kS_1)) ?_); rintro e v1 ⟨vS, rfl, hS, k1⟩; (have hW_1 : Keep (wx9) v1 := Keep.trans kS_1 k1); (have S_r := Lib.hid hS); clear hS; (have mk_1_1 := trivial); obtain ⟨sa, sn, sc, sa', sn', sc', rfl, -⟩ := Cr.form S_r.out; (have NB_1 := Lib.hid (((QBox.new wx9 false none 0 0 none 0 0).at (g' := wx9.heap.size) (by first | rfl | simp)).keep (show Keep ((wx9.alloc (.cells #[.bool false, .slice none 0 0, .slice none 0 0] 25))) v1 from Keep.trans (Keep.drew (Keep.refl _)) k1)))))
                | (go_at_call 38; ((have mark := mk_1_0); (with_reducible refine Calls.mono (DV2.out _ _ _ ((O_9.out.keep hW_1).ra HONE.out) (S_r.out.keep (Keep.refl _)) (T_9.out.keep hW_1)) ?_); rintro e v2 ⟨vQ, rfl, hq, k2⟩; (have hW_2 : Keep (wx9) v2 := Keep.trans hW_1 k2); (have hc_1_2 : Keep v1 v2 := Keep.trans (Keep.refl _) k2); (have Q_r := Lib.hid hq); clear hq; (have mk_2_00 := trivial); obtain ⟨za, zn, zc, za', zn', zc', rfl, -⟩ := Cr.form Q_r.out; (obtain ⟨bz, hbz⟩ : ∃ b, decide ((dx⁻¹).num < 0) = b := ⟨_, rfl⟩); (have Q2 := Q_r.out); rw [hbz] at Q2 ⊢; (have Q3 := Lib.hid Q2); clear Q2 hbz Q_r; (have hlo : 0 ≤ v2.heap.size := Nat.zero_le _); (have FIN := Lib.hid (PBoxQ.post Q3.out hlo hW_2))))
                | (go_at_call 38; ((have mark := mk_1_0); (with_reducible refine Calls.mono (DV2.out _ _ _ ((O_9.out.keep (Keep.alloc hW_1 _)).ra HONE.out) (S_r.out.keep (Keep.alloc (Keep.refl _) _)) (T_9.out.keep (Keep.alloc hW_1 _))) ?_); rintro e v2 ⟨vQ, rfl, hq, k2⟩; (have hW_2 : Keep (wx9) v2 := Keep.trans (Keep.alloc hW_1 _) k2); (have hc_1_2 : Keep v1 v2 := Keep.trans (Keep.alloc (Keep.refl _) _) k2); (have Q_r := Lib.hid hq); clear hq; (have mk_2_01 := trivial); (have NB_2 := Lib.hid (((QBox.new v1 false none 0 0 none 0 0).at (g' := v1.heap.size) (by first | rfl | simp)).keep (show Keep ((v1.alloc (.cells #[.bool false, .slice none 0 0, .slice none 0 0] 25))) v2 from Keep.trans (Keep.refl _) k2))); obtain ⟨za, zn, zc, za', zn', zc', rfl, -⟩ := Cr.form Q_r.out; (obtain ⟨bz, hbz⟩ : ∃ b, decide ((dx⁻¹).num < 0) = b := ⟨_, rfl⟩); (have Q2 := Q_r.out); rw [hbz] at Q2 ⊢; (have Q3 := Lib.hid Q2); clear Q2 hbz Q_r; (have hlo : 0 ≤ v1.heap.size := Nat.zero_le _); (have hgw : (wx9).heap.size ≤ v1.heap.size := (by have h9 := Below.size hW_1; exact h9)); (obtain ⟨z0, z1, z2, f0, f1, f2, -⟩ := id NB_2.out); (have FIN := Lib.hid (PBoxQ.pre Q3.out NB_2.out hlo hgw hW_2))))
                | (go_at_call 38; ((have mark := mk_1_1); (with_reducible refine Calls.mono (DV2.out _ _ _ ((O_9.out.keep hW_1).ra HONE.out) (S_r.out.keep (Keep.refl _)) (T_9.out.keep hW_1)) ?_); rintro e v2 ⟨vQ, rfl, hq, k2⟩; (have hW_2 : Keep (wx9) v2 := Keep.trans hW_1 k2); (have hc_1_2 : Keep v1 v2 := Keep.trans (Keep.refl _) k2); (have Q_r := Lib.hid hq); clear hq; (have mk_2_10 := trivial); (have NB_2 := Lib.hid (NB_1.out.keep (hc_1_2))); obtain ⟨za, zn, zc, za', zn', zc', rfl, -⟩ := Cr.form Q_r.out; (obtain ⟨bz, hbz⟩ : ∃ b, decide ((dx⁻¹).num < 0) = b := ⟨_, rfl⟩); (have Q2 := Q_r.out); rw [hbz] at Q2 ⊢; (have Q3 := Lib.hid Q2); clear Q2 hbz Q_r; (have hlo : 0 ≤ wx9.heap.size := Nat.zero_le _); (have hgw : (wx9).heap.size ≤ wx9.heap.size := (by simp)); (obtain ⟨z0, z1, z2, f0, f1, f2, -⟩ := id NB_2.out); (have FIN := Lib.hid (PBoxQ.pre Q3.out NB_2.out hlo hgw hW_2)))))
            all_goals (go_wp2_with fail; go_meet; exact FIN.out)
          case rest =>
            obtain ⟨gHB, bHB, aHB, nHB, cHB, a'HB, n'HB, c'HB, rfl, -, hbx, hcr, kx⟩ := hcut
            obtain ⟨wx11, rfl⟩ : ∃ x : World, x = wc := ⟨_, rfl⟩
            have X_10 := Lib.hid (X_9.out.keep kx)
            have Y_10 := Lib.hid (Y_9.out.keep kx)
            have T_10 := Lib.hid (T_9.out.keep kx)
            have B_10 := Lib.hid (B_9.out.keep kx)
            have C_10 := Lib.hid (C_9.out.keep kx)
            have R_10 := Lib.hid (R_9.out.keep kx)
            have WB_10 := Lib.hid (WB_9.out.keep kx)
            have WR_10 := Lib.hid (WR_9.out.keep kx)
            have O_10 := Lib.hid (O_9.out.keep kx)
            have OB_10 := Lib.hid (OB_9.out.keep kx)
            have LB_10 := Lib.hid (LB_9.out.keep kx)
            have CLB_10 := Lib.hid (CLB_9.out.keep kx)
            have HB_10 := Lib.hid hbx
            have CHB_10 := Lib.hid hcr
            have KW_10 := Lib.hid (KW_9.out.trans kx)
            clear kx X_9 Y_9 T_9 B_9 C_9 R_9 WB_9 WR_9 O_9 OB_9 LB_9 CLB_9 hbx hcr KW_9
            go_upto_region 11 with fail
            go_cut [13] (fun vv wc => PBoxQ wx11 0 (sv⁻¹) vv wc)
            case first =>
              have SK : Hid (∀ wk : World, Keep (wx11) wk → wk.cell? ⟨w7.heap.size, 0, none⟩ = some (.bool ob) ∧ wk.cell? ⟨w7.heap.size, 1, none⟩ = some (.slice oa on_ oc) ∧ wk.cell? ⟨w7.heap.size, 2, none⟩ = some (.slice oa' on' oc') ∧ wk.cell? ⟨gLB, 0, none⟩ = some (.bool bLB) ∧ wk.cell? ⟨gLB, 1, none⟩ = some (.slice aLB nLB cLB) ∧ wk.cell? ⟨gLB, 2, none⟩ = some (.slice a'LB n'LB c'LB) ∧ wk.cell? ⟨gHB, 0, none⟩ = some (.bool bHB) ∧ wk.cell? ⟨gHB, 1, none⟩ = some (.slice aHB nHB cHB) ∧ wk.cell? ⟨gHB, 2, none⟩ = some (.slice a'HB n'HB c'HB)) := Lib.hid (fun wk h => ⟨(OB_10.out.keep h).c0, (OB_10.out.keep h).c1, (OB_10.out.keep h).c2, (LB_10.out.keep h).c0, (LB_10.out.keep h).c1, (LB_10.out.keep h).c2, (HB_10.out.keep h).c0, (HB_10.out.keep h).c1, (HB_10.out.keep h).c2⟩)
              have kS_0 : Keep (wx11) (wx11.drew) := (Keep.refl _).drew
              have kS_1 : Keep (wx11) ((wx11.alloc (.cells #[.bool false, .slice none 0 0, .slice none 0 0] 25)).drew) := ((Keep.alloc (Keep.refl _) _)).drew
              obtain ⟨cz_0, cz_1, cz_2, cz_3, cz_4, cz_5, cz_6, cz_7, cz_8⟩ := SK.out _ kS_0
              go_wp2
              go_region_held3 (fun w' => w'.cell? ⟨w7.heap.size, 0, none⟩ = some (.bool ob) ∧ w'.cell? ⟨w7.heap.size, 1, none⟩ = some (.slice oa on_ oc) ∧ w'.cell? ⟨w7.heap.size, 2, none⟩ = some (.slice oa' on' oc') ∧ w'.cell? ⟨gLB, 0, none⟩ = some (.bool bLB) ∧ w'.cell? ⟨gLB, 1, none⟩ = some (.slice aLB nLB cLB) ∧ w'.cell? ⟨gLB, 2, none⟩ = some (.slice a'LB n'LB c'LB) ∧ w'.cell? ⟨gHB, 0, none⟩ = some (.bool bHB) ∧ w'.cell? ⟨gHB, 1, none⟩ = some (.slice aHB nHB cHB) ∧ w'.cell? ⟨gHB, 2, none⟩ = some (.slice a'HB n'HB c'HB)) (first | with_reducible exact SK.out _ kS_0 | with_reducible exact SK.out _ kS_1 | with_reducible exact SK.out _ hW_1 | with_reducible exact SK.out _ (Keep.alloc hW_1 _) | with_reducible exact SK.out _ hW_2 | with_reducible exact SK.out _ (Keep.alloc hW_2 _) | (refine SK.out _ ?_; (repeat' (first | exact Keep.refl _ | assumption | refine Keep.alloc ?_ _ | refine Keep.drew ?_ | refine keep_set ?_ (by first | exact Nat.le_refl _ | assumption | (simp <;> omega)) _ | (refine Keep.trans ?_ (by assumption))))) | go_keep)
                (first
                  | (go_at_call 15; ((with_reducible refine Calls.mono (IH.out _ _ _ ((CLB_10.out.keep kS_0).ra SB3.out.1) ((CHB_10.out.keep kS_0).ra SB3.out.2) (T_10.out.keep kS_0)) ?_); rintro e v1 ⟨vS, rfl, hS, k1⟩; (have hW_1 : Keep (wx11) v1 := Keep.trans kS_0 k1); (have S_r := Lib.hid hS); clear hS; (have mk_1_0 := trivial); obtain ⟨sa, sn, sc, sa', sn', sc', rfl, -⟩ := Cr.form S_r.out))
                  | (go_at_call 15; ((with_reducible refine Calls.mono (IH.out _ _ _ ((CLB_10.out.keep kS_1).ra SB3.out.1) ((CHB_10.out.keep kS_1).ra SB3.out.2) (T_10.out.keep kS_1)) ?_); rintro e v1 ⟨vS, rfl, hS, k1⟩; (have hW_1 : Keep (wx11) v1 := Keep.trans kS_1 k1); (have S_r := Lib.hid hS); clear hS; (have mk_1_1 := trivial); obtain ⟨sa, sn, sc, sa', sn', sc', rfl, -⟩ := Cr.form S_r.out; (have NB_1 := Lib.hid (((QBox.new wx11 false none 0 0 none 0 0).at (g' := wx11.heap.size) (by first | rfl | simp)).keep (show Keep ((wx11.alloc (.cells #[.bool false, .slice none 0 0, .slice none 0 0] 25))) v1 from Keep.trans (Keep.drew (Keep.refl _)) k1)))))
                  | (go_at_call 38; ((have mark := mk_1_0); (with_reducible refine Calls.mono (DV3.out _ _ _ ((O_10.out.keep hW_1).ra HONE.out) (S_r.out.keep (Keep.refl _)) (T_10.out.keep hW_1)) ?_); rintro e v2 ⟨vQ, rfl, hq, k2⟩; (have hW_2 : Keep (wx11) v2 := Keep.trans hW_1 k2); (have hc_1_2 : Keep v1 v2 := Keep.trans (Keep.refl _) k2); (have Q_r := Lib.hid hq); clear hq; (have mk_2_00 := trivial); obtain ⟨za, zn, zc, za', zn', zc', rfl, -⟩ := Cr.form Q_r.out; (obtain ⟨bz, hbz⟩ : ∃ b, decide ((sv⁻¹).num < 0) = b := ⟨_, rfl⟩); (have Q2 := Q_r.out); rw [hbz] at Q2 ⊢; (have Q3 := Lib.hid Q2); clear Q2 hbz Q_r; (have hlo : 0 ≤ v2.heap.size := Nat.zero_le _); (have FIN := Lib.hid (PBoxQ.post Q3.out hlo hW_2))))
                  | (go_at_call 38; ((have mark := mk_1_0); (with_reducible refine Calls.mono (DV3.out _ _ _ ((O_10.out.keep (Keep.alloc hW_1 _)).ra HONE.out) (S_r.out.keep (Keep.alloc (Keep.refl _) _)) (T_10.out.keep (Keep.alloc hW_1 _))) ?_); rintro e v2 ⟨vQ, rfl, hq, k2⟩; (have hW_2 : Keep (wx11) v2 := Keep.trans (Keep.alloc hW_1 _) k2); (have hc_1_2 : Keep v1 v2 := Keep.trans (Keep.alloc (Keep.refl _) _) k2); (have Q_r := Lib.hid hq); clear hq; (have mk_2_01 := trivial); (have NB_2 := Lib.hid (((QBox.new v1 false none 0 0 none 0 0).at (g' := v1.heap.size) (by first | rfl | simp)).keep (show Keep ((v1.alloc (.cells #[.bool false, .slice none 0 0, .slice none 0 0] 25))) v2 from Keep.trans (Keep.refl _) k2))); obtain ⟨za, zn, zc, za', zn', zc', rfl, -⟩ := Cr.form Q_r.out; (obtain ⟨bz, hbz⟩ : ∃ b, decide ((sv⁻¹).num < 0) = b := ⟨_, rfl⟩); (have Q2 := Q_r.out); rw [hbz] at Q2 ⊢; (have Q3 := Lib.hid Q2); clear Q2 hbz Q_r; (have hlo : 0 ≤ v1.heap.size := Nat.zero_le _); (have hgw : (wx11).heap.size ≤ v1.heap.size := (by have h9 := Below.size hW_1; exact h9)); (obtain ⟨z0, z1, z2, f0, f1, f2, -⟩ := id NB_2.out); (have FIN := Lib.hid (PBoxQ.pre Q3.out NB_2.out hlo hgw hW_2))))
                  | (go_at_call 38; ((have mark := mk_1_1); (with_reducible refine Calls.mono (DV3.out _ _ _ ((O_10.out.keep hW_1).ra HONE.out) (S_r.out.keep (Keep.refl _)) (T_10.out.keep hW_1)) ?_); rintro e v2 ⟨vQ, rfl, hq, k2⟩; (have hW_2 : Keep (wx11) v2 := Keep.trans hW_1 k2); (have hc_1_2 : Keep v1 v2 := Keep.trans (Keep.refl _) k2); (have Q_r := Lib.hid hq); clear hq; (have mk_2_10 := trivial); (have NB_2 := Lib.hid (NB_1.out.keep (hc_1_2))); obtain ⟨za, zn, zc, za', zn', zc', rfl, -⟩ := Cr.form Q_r.out; (obtain ⟨bz, hbz⟩ : ∃ b, decide ((sv⁻¹).num < 0) = b := ⟨_, rfl⟩); (have Q2 := Q_r.out); rw [hbz] at Q2 ⊢; (have Q3 := Lib.hid Q2); clear Q2 hbz Q_r; (have hlo : 0 ≤ wx11.heap.size := Nat.zero_le _); (have hgw : (wx11).heap.size ≤ wx11.heap.size := (by simp)); (obtain ⟨z0, z1, z2, f0, f1, f2, -⟩ := id NB_2.out); (have FIN := Lib.hid (PBoxQ.pre Q3.out NB_2.out hlo hgw hW_2)))))
              all_goals (go_wp2_with fail; go_meet; exact FIN.out)
            case rest =>
              obtain ⟨gSB, bSB, aSB, nSB, cSB, a'SB, n'SB, c'SB, rfl, -, hbx, hcr, kx⟩ := hcut
              obtain ⟨wx13, rfl⟩ : ∃ x : World, x = wc := ⟨_, rfl⟩
              have X_11 := Lib.hid (X_10.out.keep kx)
              have Y_11 := Lib.hid (Y_10.out.keep kx)
              have T_11 := Lib.hid (T_10.out.keep kx)
              have B_11 := Lib.hid (B_10.out.keep kx)
              have C_11 := Lib.hid (C_10.out.keep kx)
              have R_11 := Lib.hid (R_10.out.keep kx)
              have WB_11 := Lib.hid (WB_10.out.keep kx)
              have WR_11 := Lib.hid (WR_10.out.keep kx)
              have O_11 := Lib.hid (O_10.out.keep kx)
              have OB_11 := Lib.hid (OB_10.out.keep kx)
              have LB_11 := Lib.hid (LB_10.out.keep kx)
              have CLB_11 := Lib.hid (CLB_10.out.keep kx)
              have HB_11 := Lib.hid (HB_10.out.keep kx)
              have CHB_11 := Lib.hid (CHB_10.out.keep kx)
              have SB_11 := Lib.hid hbx
              have CSB_11 := Lib.hid hcr
              have KW_11 := Lib.hid (KW_10.out.trans kx)
              clear kx X_10 Y_10 T_10 B_10 C_10 R_10 WB_10 WR_10 O_10 OB_10 LB_10 CLB_10 HB_10 CHB_10 hbx hcr KW_10
              obtain ⟨B_c0, B_c1, B_c2, -, -, -, -⟩ := id B_11.out
              obtain ⟨C_c0, C_c1, C_c2, -, -, -, -⟩ := id C_11.out
              obtain ⟨R_c0, R_c1, R_c2, -, -, -, -⟩ := id R_11.out
              obtain ⟨WB_c0, WB_c1, WB_c2, -, -, -, -⟩ := id WB_11.out
              obtain ⟨OB_c0, OB_c1, OB_c2, -, -, -, -⟩ := id OB_11.out
              obtain ⟨LB_c0, LB_c1, LB_c2, -, -, -, -⟩ := id LB_11.out
              obtain ⟨HB_c0, HB_c1, HB_c2, -, -, -, -⟩ := id HB_11.out
              obtain ⟨SB_c0, SB_c1, SB_c2, -, -, -, -⟩ := id SB_11.out
              go_wp2_with fail
              refine Calls.mono (AD2.out _ _ _ (WR_11.out.ra HRF.out) CSB_11.out T_11.out) ?_
              rintro e wz ⟨u, rfl, hu, kz⟩
              clear B_c0 B_c1 B_c2 C_c0 C_c1 C_c2 R_c0 R_c1 R_c2 WB_c0 WB_c1 WB_c2 OB_c0 OB_c1 OB_c2 LB_c0 LB_c1 LB_c2 HB_c0 HB_c1 HB_c2 SB_c0 SB_c1 SB_c2
              obtain ⟨b0, a0, n0, c0, a1, n1, c1, rfl, hcr, hkk, f0, f1, f2, g0, g1, g2, s0, s1, s2⟩ := hu.put (R_11.out.keep kz) (KW_11.out.trans kz) (by omega)
              have FIN := Lib.hid (show RPost q w (.returned (.agg #[.bool b0, .slice a0 n0 c0, .slice a1 n1 c1])) _ from ⟨_, rfl, hcr, hkk⟩)
              clear hcr hkk hu kz KW_11 X_11 Y_11 T_11 B_11 C_11 R_11 WB_11 WR_11 O_11 OB_11 LB_11 CLB_11 HB_11 CHB_11 SB_11 CSB_11
              go_wp2
              refine bodyPost_ret (v := .agg #[.bool b0, .slice a0 n0 c0, .slice a1 n1 c1]) (by simp [results, Tryz.results15, go_sem, s0, s1, s2]) rfl ?_
              exact FIN.out
theorem simplest_n (N : Nat) : ∀ {w : World} {v u : Value} {lo hi : Rat} {k : Nat}, Ra w v lo k → Ra w u hi k → 0 < lo → lo ≤ hi → lo.den + hi.den ≤ N → 1 ≤ k → k < 47 → Tab w → Calls Tryz.prog 15 #[v, u] w (RPost (smpF N lo hi) w) := by
  induction N with
  | zero => intro w v u lo hi k _ _ _ _ h; have := lo.den_nz; omega
  | succ N ih =>
    intro w v u lo hi k hx hy h0 h1 hN hk1 hk hT
    obtain ⟨s, a, n, c, a', n', c', A, D, rfl, _, _, _⟩ := hx.form
    obtain ⟨t, b, m, g, b', m', g', M, E, rfl, _, _, _⟩ := hy.form
    exact simplest_s N ih hx hy h0 h1 hN hk1 hk hT
end Go.Proofs.YtjkfnnoakjdgmaaGreatDoor
