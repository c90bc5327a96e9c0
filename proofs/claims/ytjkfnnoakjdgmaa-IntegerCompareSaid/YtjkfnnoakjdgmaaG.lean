/- Walks of layer 2: by integers; awake. -/
import Derived.Test.YtjkfnnoakjdgmaaF
namespace Go.Proofs.Ytjkfnnoakjdgmaa
open Go.RowKit
set_option linter.unusedVariables false
/-- a value that reads as the integer z, in at most k limbs -/
def Iz (w : World) (v : Value) (z : Int) (k : Nat) : Prop := ∃ s n, iv s n = z ∧ Im w v s n k
theorem Iz.keep {w w' : World} {v : Value} {z : Int} {k : Nat} (h : Iz w v z k) (hk : Keep w w') : Iz w' v z k := by
  obtain ⟨s, n, h1, h2⟩ := h
  exact ⟨s, n, h1, h2.keep hk⟩
theorem Ci.iz {w : World} {v : Value} {z : Int} {k : Nat} (h : Ci w v z) (hk : z.natAbs < BB ^ k) : Iz w v z k := ⟨_, _, iv_abs z, h.im hk⟩
theorem int_z {w : World} {v : Value} {z : Int} {k : Nat} (h : Iz w v z k) (hk : k ≤ 1048576) : Calls Try.prog 18 #[v] w (IntPost z w) := by
  obtain ⟨s, n, rfl, h2⟩ := h; exact iint_c h2 hk
theorem rint_z {w : World} {v : Value} {z : Int} {k : Nat} (h : Iz w v z k) (hk : k ≤ 1048576) : Calls Try.prog 20 #[v] w (IntPost z w) := by
  obtain ⟨s, n, rfl, h2⟩ := h; exact riint_c h2 hk
theorem sign_z {w : World} {v : Value} {z : Int} {k : Nat} (h : Iz w v z k) (hk : k ≤ 1048576) : Calls Try.prog 16 #[v] w (VPost (sgn z) w) := by
  obtain ⟨s, n, rfl, h2⟩ := h; exact isign_c h2 hk
theorem rsign_z {w : World} {v : Value} {z : Int} {k : Nat} (h : Iz w v z k) (hk : k ≤ 1048576) : Calls Try.prog 17 #[v] w (VPost (sgn z) w) := by
  obtain ⟨s, n, rfl, h2⟩ := h; exact risign_c h2 hk
theorem neg_z {w : World} {v : Value} {z : Int} {k : Nat} (h : Iz w v z k) (hk : k ≤ 1048576) : Calls Try.prog 27 #[v] w (IPostZ (-z) w) := by
  obtain ⟨s, n, rfl, h2⟩ := h; exact ineg_c h2 hk
theorem rneg_z {w : World} {v : Value} {z : Int} {k : Nat} (h : Iz w v z k) (hk : k ≤ 1048576) : Calls Try.prog 34 #[v] w (IPostZ (-z) w) := by
  obtain ⟨s, n, rfl, h2⟩ := h; exact rineg_c h2 hk
theorem cmp_z {w : World} {v u : Value} {z y : Int} {k k' : Nat} (h : Iz w v z k) (h' : Iz w u y k') (hk : k ≤ 1048576) (hk' : k' ≤ 1048576) : Calls Try.prog 30 #[v, u] w (VPost (zC z y) w) := by
  obtain ⟨s, n, rfl, h2⟩ := h; obtain ⟨s', n', rfl, h2'⟩ := h'; exact icmp_c h2 h2' hk hk'
theorem dm_z {w : World} {v u : Value} {z y : Int} {k k' : Nat} (h : Iz w v z k) (h' : Iz w u y k') (hk : k ≤ 1048574) (hk' : k' ≤ 1048574) : Calls Try.prog 32 #[v, u] w (ZPost (zQ z y) (zR z y) (zE y) w) := by
  obtain ⟨s, n, rfl, h2⟩ := h; obtain ⟨s', n', rfl, h2'⟩ := h'; exact idivmod_c h2 h2' hk hk'
theorem RBox.set {g : Nat} {u0 u1 : Value} {w : World} (h : RBox g u0 u1 w) (b : Bool) (a : Option Addr) (n c : Nat) : RBox g (.bool b) (.slice a n c) ((w.setCell ⟨g, 0, none⟩ (.bool b)).setCell ⟨g, 1, none⟩ (.slice a n c)) := by
  have c1 : (w.setCell ⟨g, 0, none⟩ (.bool b)).cell? ⟨g, 1, none⟩ = some u1 := by rw [World.cell?_setCell_other _ _ _ _ (by simp)]; exact h.c1
  refine ⟨?_, World.cell?_setCell_same _ _ _ c1, by simpa using h.f0, by simpa using h.f1, fun i x => ?_⟩
  · rw [World.cell?_setCell_other _ _ _ _ (by simp)]; exact World.cell?_setCell_same _ _ _ h.c0
  · by_cases h1 : i = 1
    · subst h1; rw [World.cell?_setCell_same _ _ _ c1]; simp
    · rw [World.cell?_setCell_other _ _ _ _ (by simp <;> omega)]
      by_cases h0 : i = 0
      · subst h0; rw [World.cell?_setCell_same _ _ _ h.c0]; simp
      · rw [World.cell?_setCell_other _ _ _ _ (by simp <;> omega)]; exact h.no i x
/-- two results, put into two new blocks -/
def prW (w : World) (b : Bool) (a : Option Addr) (n c : Nat) (b' : Bool) (a' : Option Addr) (n' c' : Nat) : World :=
  (w.alloc (.cells #[.bool b, .slice a n c] 25)).alloc (.cells #[.bool b', .slice a' n' c'] 25)
theorem pr_new (w : World) (b : Bool) (a : Option Addr) (n c : Nat) (b' : Bool) (a' : Option Addr) (n' c' : Nat) :
    RBox w.heap.size (.bool b) (.slice a n c) (prW w b a n c b' a' n' c') ∧ RBox (w.heap.size + 1) (.bool b') (.slice a' n' c') (prW w b a n c b' a' n' c') ∧ Keep w (prW w b a n c b' a' n' c') := by
  exact ⟨(RBox.new w b a n c).keep ((Keep.refl _).alloc _), (RBox.new (w.alloc _) b' a' n' c').at (sz1 _ _), ((Keep.refl w).alloc _).alloc _⟩
set_option maxHeartbeats 2000000 in
theorem awake_c (w : World) : Calls Try.prog 10 #[] w (BPost true w) := by
  have O1 := Lib.hid (fun w1 => iof_c (-7) w1 (by omega) (by omega))
  have O2 := Lib.hid (fun w1 => iof_c 2 w1 (by omega) (by omega))
  have O3 := Lib.hid (fun w1 => iof_c (-2) w1 (by omega) (by omega))
  have D1 := Lib.hid (fun w1 v u (h : Ci w1 v (-7)) (h' : Ci w1 u 2) => dm_z (w := w1) (h.iz (k := 1) (by decide)) (h'.iz (k := 1) (by decide)) (by omega) (by omega))
  have D2 := Lib.hid (fun w1 v u (h : Ci w1 v (-7)) (h' : Ci w1 u (-2)) => dm_z (w := w1) (h.iz (k := 1) (by decide)) (h'.iz (k := 1) (by decide)) (by omega) (by omega))
  rw [show zQ (-7) 2 = -4 from rfl, show zR (-7) 2 = 1 from rfl, show zE 2 = 0 from rfl] at D1
  rw [show zQ (-7) (-2) = 4 from rfl, show zR (-7) (-2) = 1 from rfl, show zE (-2) = 0 from rfl] at D2
  have N1 := Lib.hid (fun w1 v (h : Ci w1 v (-4)) => int_z (w := w1) (h.iz (k := 1) (by decide)) (by omega))
  have N2 := Lib.hid (fun w1 v (h : Ci w1 v 4) => int_z (w := w1) (h.iz (k := 1) (by decide)) (by omega))
  unfold IntPost at N1 N2
  rw [show intV (-4) = -4 from by decide, show intB (-4) = true from by decide] at N1
  rw [show intV 4 = 4 from by decide, show intB 4 = true from by decide] at N2
  have G1 := Lib.hid (fun w1 v (h : Ci w1 v 1) => sign_z (w := w1) (h.iz (k := 1) (by decide)) (by omega))
  rw [show sgn 1 = 1 from by decide] at G1
  have G0 := Lib.hid (fun w1 v (h : Ci w1 v 0) => sign_z (w := w1) (h.iz (k := 1) (by decide)) (by omega))
  rw [show sgn 0 = 0 from by decide] at G0
  have CM := Lib.hid (fun w1 v u (h : Ci w1 v 1) (h' : Ci w1 u 1) => cmp_z (w := w1) (h.iz (k := 1) (by decide)) (h'.iz (k := 1) (by decide)) (by omega) (by omega))
  rw [show zC 1 1 = 0 from by decide] at CM
  have MK := Lib.hid (fun w1 => imake_c (w := w1) (v := .slice none 0 0) (n := 0) (k := 0) true (Rd.nm (Rd.nil w1) (by simp)) (by omega))
  rw [show iv true 0 = 0 from rfl] at MK
  go_enter Try.func10, Try.ntmps10
  go_wp2_with fail
  refine Calls.mono (O1.out _) ?_
  rintro e w1 ⟨v1, rfl, hv1, k1⟩
  go_wp2_with fail
  refine Calls.mono (O2.out _) ?_
  rintro e w2 ⟨v2, rfl, hv2, k2⟩
  have hv1' := hv1.keep k2
  have K2 := k1.trans k2
  go_wp2_with fail
  refine Calls.mono (D1.out _ _ _ hv1' hv2) ?_
  rintro e w3 ⟨q1, r1, rfl, hq1, hr1, k3⟩
  have K3 := K2.trans k3
  obtain ⟨aq, nq, cq, lq, rfl, hqr, hqc⟩ := hq1.form
  obtain ⟨ar, nr, cr, lr, rfl, hrr, hrc⟩ := hr1.form
  have bq : decide ((-4 : Int) < 0) = true := by decide
  have br : decide ((1 : Int) < 0) = false := by decide
  rw [bq] at hqc ⊢
  rw [br] at hrc ⊢
  obtain ⟨P0, P1, PK⟩ := pr_new w3 true aq nq cq false ar nr cr
  have Q1 := Lib.hid (hqc _ (hqr.below PK))
  have R1 := Lib.hid (hrc _ (hrr.below PK))
  have K4 := Lib.hid (K3.trans PK)
  unfold prW at *
  clear hv1 hv2 hv1' K2 K3 k1 k2 k3 hq1 hr1 hqr hrr hqc hrc bq br PK
  go_wp2_with fail
  refine Calls.mono (O1.out _) ?_
  rintro e w5 ⟨v5, rfl, hv5, k5⟩
  go_wp2_with fail
  refine Calls.mono (O3.out _) ?_
  rintro e w6 ⟨v6, rfl, hv6, k6⟩
  have hv5' := hv5.keep k6
  have k56 := k5.trans k6
  go_wp2_with fail
  refine Calls.mono (D2.out _ _ _ hv5' hv6) ?_
  rintro e w7 ⟨q2, r2, rfl, hq2, hr2, k7⟩
  have k57 := k56.trans k7
  obtain ⟨aq2, nq2, cq2, lq2, rfl, hqr2, hqc2⟩ := hq2.form
  obtain ⟨ar2, nr2, cr2, lr2, rfl, hrr2, hrc2⟩ := hr2.form
  have bq : decide ((4 : Int) < 0) = false := by decide
  have br : decide ((1 : Int) < 0) = false := by decide
  rw [bq] at hqc2 ⊢
  rw [br] at hrc2 ⊢
  obtain ⟨P2, P3, PK2⟩ := pr_new w7 false aq2 nq2 cq2 false ar2 nr2 cr2
  have k58 := k57.trans PK2
  have Q2 := Lib.hid (hqc2 _ (hqr2.below PK2))
  have R2 := Lib.hid (hrc2 _ (hrr2.below PK2))
  have R3 := Lib.hid (R1.out.keep k58)
  have Q3 := Lib.hid (Q1.out.keep k58)
  have K8 := Lib.hid (K4.out.trans k58)
  obtain ⟨s0, s1, _, _, _⟩ := P0.keep k58
  have P1' := P1.keep k58
  unfold prW at *
  clear hv5 hv6 hv5' k5 k6 k7 k56 k57 hq2 hr2 hqr2 hrr2 hqc2 hrc2 bq br PK2 P0 P1 Q1 R1 K4 k58
  go_wp2_with fail
  refine Calls.mono (N1.out _ _ Q3.out) ?_
  rintro e w8 ⟨rfl, k8⟩
  have P1a := P1'.keep k8
  obtain ⟨t0, t1, _, _, _⟩ := P2.keep k8
  have P3a := P3.keep k8
  have Q2a := Lib.hid (Q2.out.keep k8)
  have R2a := Lib.hid (R2.out.keep k8)
  have R3a := Lib.hid (R3.out.keep k8)
  have K9 := Lib.hid (K8.out.trans k8)
  clear k8 P1' P2 P3 Q2 R2 R3 K8 Q3
  go_wp2_with fail
  refine Calls.mono (N2.out _ _ Q2a.out) ?_
  rintro e w9 ⟨rfl, k9⟩
  have P1b := P1a.keep k9
  obtain ⟨y0, y1, _, _, _⟩ := P1a.keep k9
  have P3b := P3a.keep k9
  have R2b := Lib.hid (R2a.out.keep k9)
  have R3b := Lib.hid (R3a.out.keep k9)
  have K10 := Lib.hid (K9.out.trans k9)
  clear k9 P1a P3a Q2a R2a R3a K9
  go_wp2_with fail
  refine Calls.mono (G1.out _ _ R3b.out) ?_
  rintro e w10 ⟨rfl, k10⟩
  obtain ⟨x0, x1, _, _, _⟩ := P1b.keep k10
  obtain ⟨z0, z1, _, _, _⟩ := P3b.keep k10
  have R2c := Lib.hid (R2b.out.keep k10)
  have R3c := Lib.hid (R3b.out.keep k10)
  have K11 := Lib.hid (K10.out.trans k10)
  clear k10 P1b P3b R2b R3b K10
  go_wp2_with fail
  refine Calls.mono (CM.out _ _ _ R3c.out R2c.out) ?_
  rintro e w11 ⟨rfl, k11⟩
  have K12 := Lib.hid (K11.out.trans k11)
  clear k11 R2c R3c K11
  go_wp2_with fail
  refine Calls.mono (MK.out _) ?_
  rintro e w12 ⟨vm, rfl, hvm, k12⟩
  have K13 := Lib.hid (K12.out.trans k12)
  clear k12 K12
  go_wp2_with fail
  refine Calls.mono (G0.out _ _ hvm) ?_
  rintro e w13 ⟨rfl, k13⟩
  have K14 := Lib.hid (K13.out.trans k13)
  clear k13 K13
  go_wp2_with fail
  go_ret
  exact ⟨rfl, K14.out⟩
end Go.Proofs.Ytjkfnnoakjdgmaa
