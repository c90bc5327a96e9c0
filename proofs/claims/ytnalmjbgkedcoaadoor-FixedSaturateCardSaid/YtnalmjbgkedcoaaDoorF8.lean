/- The document's examples; the law of Saturate. -/
import Derived.Test.YtnalmjbgkedcoaaDoorF2
import Derived.Test.YtnalmjbgkedcoaaDoorF3
import Derived.Test.YtnalmjbgkedcoaaDoorF5
import Derived.Test.YtnalmjbgkedcoaaDoorF7
import Derived.Deep.RegionHeld3
import Derived.Deep.Cut
namespace Go.Proofs.YtnalmjbgkedcoaaDoor.fx
open Go.RowKit
set_option linter.unusedVariables false

set_option linter.unusedSimpArgs false
/-- two numbers of the document's examples -/
def e1 : Rat := ((-5 : Int) : Rat) / ((2 : Int) : Rat)
def e2 : Rat := ((3 : Int) : Rat) / ((8 : Int) : Rat)
theorem e1_rb : Rb e1 6 := by
  unfold e1
  rw [Rat.div_def]
  exact (Rb.mul (rb_int (z := -5) (k := 1) (by decide) (by omega)) ((rb_int (z := 2) (k := 1) (by decide) (by omega)).inv (by omega)) (by omega)).up (by omega)
theorem e2_rb : Rb e2 6 := by
  unfold e2
  rw [Rat.div_def]
  exact (Rb.mul (rb_int (z := 3) (k := 1) (by decide) (by omega)) ((rb_int (z := 8) (k := 1) (by decide) (by omega)).inv (by omega)) (by omega)).up (by omega)
theorem e1_r : sgd (decide (e1.num < 0)) (rnd e1 0) = (-3, 0) := by decide +kernel
theorem e2_r : sgd (decide (e2.num < 0)) (rnd e2 2) = (2, 0) := by decide +kernel
set_option maxHeartbeats 8000000 in
set_option maxRecDepth 100000 in
theorem awake_c (w : World) (hT : Tab w) : Calls Tryd.prog 6 #[] w fun e w' => e = .returned (.bool true) ∧ Keep w w' := by
  have T0 := Lib.hid hT
  have FA := Lib.hid (rqfrac_1 (-5) 2 w (by omega) (by omega) (by omega) (by omega) (by decide))
  clear hT
  go_enter Tryd.func6, Tryd.ntmps6
  go_wp2_with fail
  refine FA.out.mono ?_
  rintro e w1 ⟨u, rfl, cr, k1⟩
  obtain ⟨x1, m1, g1, y1, o1, h1, rfl, _, _, _, _⟩ := cr.form
  obtain ⟨b1, hb1⟩ : ∃ b, decide ((((-5 : Int) : Rat) / ((2 : Int) : Rat)).num < 0) = b := ⟨_, rfl⟩
  rw [hb1] at cr ⊢
  obtain ⟨A1, hA1⟩ : ∃ x, w1.alloc (.cells #[.bool b1, .slice x1 m1 g1, .slice y1 o1 h1] 25) = x := ⟨_, rfl⟩
  have ka : Keep w1 A1 := by rw [← hA1]; exact (Keep.refl w1).alloc _
  have KA := Lib.hid (Keep.trans k1 ka)
  have CA := Lib.hid (show Cr A1 _ e1 from cr.keep ka)
  have QA := Lib.hid (show QBox w1.heap.size (.bool b1) (.slice x1 m1 g1) (.slice y1 o1 h1) A1 by rw [← hA1]; exact QBox.new w1 b1 x1 m1 g1 y1 o1 h1)
  obtain ⟨P1, hP1⟩ : ∃ x, w1.heap.size = x := ⟨_, rfl⟩
  rw [hP1] at QA
  have hA1' := Lib.hid hA1
  have hP1' := Lib.hid hP1
  have FB := Lib.hid (rqfrac_1 3 8 A1 (by omega) (by omega) (by omega) (by omega) (by decide))
  clear cr k1 ka hb1 hA1 hP1 FA
  go_upto_region 2 with (fail)
  rw [hA1'.out, hP1'.out]
  go_wp2_with fail
  refine FB.out.mono ?_
  rintro e w2 ⟨u, rfl, cr, k2⟩
  obtain ⟨x2, m2, g2, y2, o2, h2, rfl, _, _, _, _⟩ := cr.form
  obtain ⟨b2, hb2⟩ : ∃ b, decide ((((3 : Int) : Rat) / ((8 : Int) : Rat)).num < 0) = b := ⟨_, rfl⟩
  rw [hb2] at cr ⊢
  obtain ⟨A2, hA2⟩ : ∃ x, w2.alloc (.cells #[.bool b2, .slice x2 m2 g2, .slice y2 o2 h2] 25) = x := ⟨_, rfl⟩
  have kb : Keep w2 A2 := by rw [← hA2]; exact (Keep.refl w2).alloc _
  have KB := Lib.hid (Keep.trans KA.out (Keep.trans k2 kb))
  have CB := Lib.hid (show Cr A2 _ e2 from cr.keep kb)
  have CA2 := Lib.hid (CA.out.keep (Keep.trans k2 kb))
  have QB := Lib.hid (show QBox w2.heap.size (.bool b2) (.slice x2 m2 g2) (.slice y2 o2 h2) A2 by rw [← hA2]; exact QBox.new w2 b2 x2 m2 g2 y2 o2 h2)
  have QA2 := Lib.hid (QA.out.keep (Keep.trans k2 kb))
  obtain ⟨P2, hP2⟩ : ∃ x, w2.heap.size = x := ⟨_, rfl⟩
  rw [hP2] at QB
  have hA2' := Lib.hid hA2
  have hP2' := Lib.hid hP2
  have RA := round_in _ e1 0 A2 CA2.out e1_rb (by omega) (by omega) (T0.out.keep KB.out)
  rw [e1_r] at RA
  have RAH := Lib.hid RA
  clear cr k2 kb hb2 hA2 hP2 FB RA CA QA KA
  go_upto_region 3 with (fail)
  rw [hA2'.out, hP2'.out]
  obtain ⟨c0, c1, c2, -, -, -, -⟩ := id QA2.out
  go_wp2_with fail
  refine RAH.out.mono ?_
  rintro e w3 ⟨rfl, k3⟩
  have K3 := Lib.hid (Keep.trans KB.out k3)
  have QB3 := Lib.hid (QB.out.keep k3)
  have RB := round_in _ e2 2 w3 (CB.out.keep k3) e2_rb (by omega) (by omega) (T0.out.keep K3.out)
  rw [e2_r] at RB
  have RBH := Lib.hid RB
  clear k3 RB RAH CB QB CA2 QA2 c0 c1 c2
  obtain ⟨c0, c1, c2, -, -, -, -⟩ := id QB3.out
  dsimp only
  go_wp2_with fail
  refine RBH.out.mono ?_
  rintro e w4 ⟨rfl, k4⟩
  have K4 := Lib.hid (Keep.trans K3.out k4)
  clear k4 RBH c0 c1 c2
  dsimp only
  go_wp2_with fail
  refine (scale_ex w4).mono ?_
  rintro e w5 ⟨rfl, k5⟩
  have K5 := Lib.hid (Keep.trans K4.out k5)
  clear k5
  obtain ⟨A6, hA6⟩ : ∃ x, (w5.alloc (.cells #[.int .i64 1, .int .i64 2] 2)).alloc (.cells #[.int .i64 3, .int .i64 4] 2) = x := ⟨_, rfl⟩
  have K6 := Lib.hid (show Keep w A6 by rw [← hA6]; exact (K5.out.alloc _).alloc _)
  have DX := dot_ex w5.heap.size (w5.heap.size + 1) A6 (by rw [← hA6]; simp)
  have DXH := Lib.hid DX
  have hA6' := Lib.hid hA6
  clear DX hA6
  go_wp2_with fail
  rw [hA6'.out]
  refine DXH.out.mono ?_
  rintro e w7 ⟨rfl, k7⟩
  have K7 := Lib.hid (Keep.trans K6.out k7)
  have SA := saturate_c 300 8 w7 (by omega) (by omega)
  rw [show sat 300 8 = 127 from by decide] at SA
  have SAH := Lib.hid SA
  clear k7 DXH SA
  go_wp2_with fail
  refine SAH.out.mono ?_
  rintro e w8 ⟨rfl, rfl⟩
  go_wp2
  refine bodyPost_ret (results_tmp rfl _ _ _) rfl ?_
  exact ⟨rfl, K7.out⟩

theorem sat_range {a b : Int} (h : -9223372036854775808 ≤ a ∧ a ≤ 9223372036854775807) : -9223372036854775808 ≤ sat a b ∧ sat a b ≤ 9223372036854775807 := by
  unfold sat
  by_cases h0 : b < 1 ∨ 64 < b
  · rw [if_pos h0]; exact h
  · rw [if_neg h0]
    have hp : (1 : Int) ≤ 2 ^ (b - 1).toNat := by
      have := Nat.one_le_two_pow (n := (b - 1).toNat)
      have e : (2 : Int) ^ (b - 1).toNat = ((2 ^ (b - 1).toNat : Nat) : Int) := by simp
      rw [e]; omega
    have hq : (2 : Int) ^ (b - 1).toNat ≤ 9223372036854775808 := by
      have : 2 ^ (b - 1).toNat ≤ 2 ^ 63 := Nat.pow_le_pow_right (by omega) (by omega)
      have e : (2 : Int) ^ (b - 1).toNat = ((2 ^ (b - 1).toNat : Nat) : Int) := by simp
      rw [e]; omega
    generalize (2 : Int) ^ (b - 1).toNat = t at hp hq ⊢
    omega
theorem sat_sat (a b : Int) : sat (sat a b) b = sat a b := by
  unfold sat
  by_cases h0 : b < 1 ∨ 64 < b
  · rw [if_pos h0, if_pos h0]
  · rw [if_neg h0, if_neg h0]
    have hp : (1 : Int) ≤ 2 ^ (b - 1).toNat := by
      have := Nat.one_le_two_pow (n := (b - 1).toNat)
      have e : (2 : Int) ^ (b - 1).toNat = ((2 ^ (b - 1).toNat : Nat) : Int) := by simp
      rw [e]; omega
    generalize (2 : Int) ^ (b - 1).toNat = t at hp ⊢
    omega
set_option maxHeartbeats 4000000 in
set_option maxRecDepth 100000 in
theorem law_saturate (a b : Int) (w : World) (hT : Tab w) (h1 : -9223372036854775808 ≤ a ∧ a ≤ 9223372036854775807) :
    Calls Tryd.prog 5 #[.int .i64 a, .int .i64 b] w fun e w' => e = .returned (.bool true) ∧ Keep w w' := by
  obtain ⟨s, hs⟩ : ∃ s, sat a b = s := ⟨_, rfl⟩
  have hr : -9223372036854775808 ≤ s ∧ s ≤ 9223372036854775807 := by rw [← hs]; exact sat_range h1
  have ht : sat s b = s := by rw [← hs]; exact sat_sat a b
  have T0 := Lib.hid hT
  have S1 := Lib.hid (fun w => saturate_c a b w h1.1 h1.2)
  have S2 := Lib.hid (fun w => rsaturate_c a b w h1.1 h1.2)
  have S3 := Lib.hid (fun w => saturate_c s b w hr.1 hr.2)
  rw [hs] at S1 S2
  rw [ht] at S3
  clear hT hs ht
  go_enter Tryd.func5, Tryd.ntmps5
  go_wp2_with fail
  refine (awake_c w T0.out).mono ?_
  rintro e w1 ⟨rfl, k1⟩
  have K1 := Lib.hid k1
  clear k1
  go_wp2_with fail
  refine (S1.out w1).mono ?_
  rintro e w2 ⟨rfl, rfl⟩
  go_wp2_with fail
  refine (S2.out w2).mono ?_
  rintro e w3 ⟨rfl, rfl⟩
  go_wp2_with fail
  refine (S3.out w3).mono ?_
  rintro e w4 ⟨rfl, rfl⟩
  go_wp2
  refine bodyPost_ret (results_tmp rfl _ _ _) rfl ?_
  exact ⟨rfl, K1.out⟩

end Go.Proofs.YtnalmjbgkedcoaaDoor.fx
