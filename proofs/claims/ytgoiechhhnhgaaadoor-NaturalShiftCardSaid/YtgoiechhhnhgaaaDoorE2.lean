/- Walks of layer 1: divStep. -/
import Derived.Test.YtgoiechhhnhgaaaDoorE1
import Derived.Test.YtgoiechhhnhgaaaDoorPlain6
namespace Go.Proofs.YtgoiechhhnhgaaaDoor
open Go.RowKit
set_option linter.unusedVariables false
theorem lead_of {S T : List Nat} {m : Nat} (hS : S.length = m + 3) (hT : T.length = m + 2) (hs : Lim S) (ht : Lim T) (h0 : 0 < T.getD (m + 1) 0) (hlt : nv S < nv T * BB) :
    Lead (nv S) (nv T) (BB ^ m) (S.getD (m + 2) 0) (S.getD (m + 1) 0) (S.getD m 0) (T.getD (m + 1) 0) (T.getD m 0) := by
  have a1 := nv_lt (hs.take m)
  rw [List.length_take, Nat.min_eq_left (by omega)] at a1
  have b1 := nv_lt (ht.take m)
  rw [List.length_take, Nat.min_eq_left (by omega)] at b1
  have eS : nv S = nv (S.take m) + ((S.getD (m + 2) 0 * BB + S.getD (m + 1) 0) * BB + S.getD m 0) * BB ^ m := by
    conv => lhs; rw [← List.take_of_length_le (show S.length ≤ m + 3 by omega), nv_take_succ S (m + 2), nv_take_succ S (m + 1), nv_take_succ S m]
    simp only [Nat.pow_succ, Nat.add_mul]
    simp only [Nat.mul_comm, Nat.mul_left_comm, Nat.mul_assoc]
    omega
  have eT : nv T = nv (T.take m) + (T.getD (m + 1) 0 * BB + T.getD m 0) * BB ^ m := by
    conv => lhs; rw [← List.take_of_length_le (show T.length ≤ m + 2 by omega), nv_take_succ T (m + 1), nv_take_succ T m]
    simp only [Nat.pow_succ, Nat.add_mul]
    simp only [Nat.mul_comm, Nat.mul_left_comm, Nat.mul_assoc]
    omega
  refine ⟨Nat.pow_pos BB_pos, hs.at _, hs.at _, hs.at _, ht.at _, ht.at _, h0, by omega, ?_, by omega, ?_, hlt⟩
  · rw [Nat.add_mul _ 1, Nat.one_mul]; omega
  · rw [Nat.add_mul _ 1, Nat.one_mul]; omega
theorem fin0 {U V l g : Nat} (h : U = l + g * V) (hge : U / V ≤ g) (hV : 0 < V) : U / V = g ∧ l = U % V := by
  have h1 : g ≤ U / V := (Nat.le_div_iff_mul_le hV).2 (by omega)
  have h2 : U / V = g := by omega
  have h3 := Nat.div_add_mod U V
  rw [h2, Nat.mul_comm] at h3
  exact ⟨h2, by omega⟩
theorem fin1 {U V P l g : Nat} (h : U + P = l + g * V) (hl : l < P) (hU : U < P) (hle : g ≤ U / V + 1) (hV : 0 < V) : g = U / V + 1 ∧ (l + V) % P = U % V := by
  have h1 : U < g * V := by omega
  have h2 := (Nat.div_lt_iff_lt_mul hV).2 h1
  have h3 : g = U / V + 1 := by omega
  refine ⟨h3, ?_⟩
  have h4 := Nat.div_add_mod U V
  have h5 : g * V = V * (U / V) + V := by rw [h3, Nat.add_mul, Nat.one_mul, Nat.mul_comm]
  have h6 : l + V = U % V + P := by omega
  rw [h6, Nat.add_mod_right, Nat.mod_eq_of_lt]
  have := Nat.mod_le U V
  omega
/-- what divStep leaves -/
def DsPost (b off n U V : Nat) (w : World) (e : Ending) (w' : World) : Prop :=
  ∃ L : List Nat, e = Ending.returned (.int .u32 ((U / V : Nat) : Int)) ∧ Win w' b off n L ∧ nv L = U % V ∧ Only b off (off + n) w w'
set_option maxHeartbeats 1600000 in
theorem divStep_c (b off m cap : Nat) (S : List Nat) (b' off' cap' : Nat) (T : List Nat) (w : World) (h : Win w b off (m + 3) S) (hcap : m + 3 ≤ cap) (hcm : cap ≤ 9223372036854775807)
    (h' : Rd w (some ⟨b', off', none⟩) (m + 2) cap' T) (hf : b' ≠ b) (h0 : 0 < T.getD (m + 1) 0) (hlt : nv S < nv T * BB) :
    Calls Tryd.prog 61 #[.slice (some ⟨b, off, none⟩) (m + 3) cap, .slice (some ⟨b', off', none⟩) (m + 2) cap'] w (DsPost b off (m + 3) (nv S) (nv T) w) := by
  have HW := Lib.hid h
  have HR := Lib.hid h'
  have HF : Hid (Far (some ⟨b', off', none⟩) (m + 2) b) := Lib.hid (.inr (by rintro y e; injection e with e; subst e; exact hf))
  have hld := lead_of h.len_eq h'.len_eq h.lim h'.lim h0 hlt
  obtain ⟨u2, hu2⟩ : ∃ x, S.getD (m + 2) 0 = x := ⟨_, rfl⟩
  obtain ⟨u1, hu1⟩ : ∃ x, S.getD (m + 1) 0 = x := ⟨_, rfl⟩
  obtain ⟨u0, hu0⟩ : ∃ x, S.getD m 0 = x := ⟨_, rfl⟩
  obtain ⟨v1, hv1⟩ : ∃ x, T.getD (m + 1) 0 = x := ⟨_, rfl⟩
  obtain ⟨v0, hv0⟩ : ∃ x, T.getD m 0 = x := ⟨_, rfl⟩
  have s2 := h.cell (m + 2) (by omega)
  have s1 := h.cell (m + 1) (by omega)
  have s0 := h.cell m (by omega)
  have hlc' := h'.le_cap
  have hcm' := h'.cap_le
  rcases h'.cells with hc | ⟨b2, off2, e, hc⟩
  · omega
  injection e with e
  injection e with e1 e2
  subst e1
  subst e2
  have t1 := hc (m + 1) (by omega)
  have t0 := hc m (by omega)
  rw [hu2] at s2 hld
  rw [hu1] at s1 hld
  rw [hu0] at s0 hld
  rw [hv1] at t1 hld h0
  rw [hv0] at t0 hld
  have HLD := Lib.hid hld
  have q2 := hld.hu2
  have q1 := hld.hu1
  have q0 := hld.hu0
  have p1 := hld.hv1
  have p0 := hld.hv0
  rw [BB_eq] at q2 q1 q0 p1 p0
  have hor1 := or64 u1 u2 q1 q2
  obtain ⟨X, hX⟩ : ∃ X, u1 + 4294967296 * u2 = X := ⟨_, rfl⟩
  rw [hX] at hor1
  have hXl : X < 18446744073709551616 := by omega
  have hst := Est.start hld
  obtain ⟨G, hG⟩ : ∃ G, X / v1 = G := ⟨_, rfl⟩
  obtain ⟨R, hR⟩ : ∃ R, X % v1 = R := ⟨_, rfl⟩
  have hGl : G < 18446744073709551616 := by rw [← hG]; exact Nat.lt_of_le_of_lt (Nat.div_le_self _ _) hXl
  have hRl : R < 4294967296 := by rw [← hR]; have := Nat.mod_lt X h0; omega
  have hGi : IntKind.u64.wrap ((X : Int) / v1) = (G : Nat) := by
    rw [show ((X : Int) / v1) = (G : Nat) from by rw [← hG]; push_cast; rfl]; simp [IntKind.wrap, IntKind.bits, IntKind.signed]; omega
  have HRI : Hid (((X : Int) % v1) = (R : Nat)) := Lib.hid (by rw [← hR]; push_cast; rfl)
  rw [show (u2 * BB + u1) / v1 = G from by rw [show u2 * BB + u1 = X from by rw [BB_eq]; omega]; exact hG, show (u2 * BB + u1) % v1 = R from by rw [show u2 * BB + u1 = X from by rw [BB_eq]; omega]; exact hR] at hst
  have HEST : Hid (Est (nv S) (nv T) u2 u1 v1 G R) := Lib.hid ⟨hst.top, hst.ge⟩
  have HUP : Hid (nv S < BB ^ (m + 3)) := Lib.hid (by have := nv_lt HW.out.lim; rwa [HW.out.len_eq] at this)
  have i1 : (m : Int) + 2 - 1 = (m : Int) + 1 := by omega
  have i2 : (m : Int) + 2 - 2 = (m : Int) := by omega
  have i3 : ((m : Int) + 1).toNat = m + 1 := by omega
  clear h h' hu2 hu1 hu0 hv1 hv0 hc hld hX hst hlt hG hR
  go_enter Tryd.func61, Tryd.ntmps61
  go_wp2_with fail
  go_quiet (fail)
  go_wp2_with fail
  go_quiet (fail)
  go_wp2_with fail
  go_quiet (fail)
  go_wp2_with fail
  go_loopw [9, 10] (fun i z wr => ∃ (g r : Nat), i = .int .u64 g ∧ z = .int .u64 r ∧ g < 18446744073709551616 ∧ r < 4294967296 ∧ Hid (Est (nv S) (nv T) u2 u1 v1 g r) ∧ Dr w wr) (fun i _ _ => (intOf i).toNat)
  case atStart => exact ⟨G, R, rfl, val_int HRI.out, hGl, hRl, Lib.hid HEST.out, ((Dr.refl w).more _).more _ |>.more _⟩
  case round =>
    obtain ⟨g, r, rfl, rfl, hg, hr, hest, hdr⟩ := hrel
    rw [← hdr.cell] at s0
    have or2 := or64 u0 r q0 hr
    obtain ⟨Y, hY⟩ : ∃ Y, u0 + 4294967296 * r = Y := ⟨_, rfl⟩
    rw [hY] at or2
    have hYl : Y < 18446744073709551616 := by omega
    by_cases hgb : 4294967296 ≤ g
    · obtain ⟨hgp, hes⟩ := hest.out.step HLD.out (.inl hgb)
      obtain ⟨k, rfl⟩ : ∃ k, g = k + 1 := ⟨g - 1, by omega⟩
      rw [Nat.add_sub_cancel] at hes
      have HES := Lib.hid hes
      have hnz : (((k + 1 : Nat) : Int) / 4294967296 != 0) = true := by rw [bne_iff_ne]; omega
      have ek : ((k + 1 : Nat) : Int) - 1 = k := by omega
      clear hes
      by_cases hbr : 4294967296 ≤ r + v1
      · have hnz2 : ((((r : Int) + v1) / 4294967296) != 0) = true := by rw [bne_iff_ne]; omega
        have HB := Lib.hid (HES.out.broke HLD.out (by rw [BB_eq]; exact hbr))
        have hkl : k < 4294967296 := HB.out.1
        have HCLO := Lib.hid (HES.out.close HLD.out HB.out.1 HB.out.2)
        have MS := Lib.hid (mulSub_c b off (m + 2) cap S (some ⟨b', off', none⟩) cap' T k wr (HW.out.dr hdr) hcap hcm (hdr.rd HR.out) HF.out hkl)
        go_wp2_with fail
        refine MS.out.mono ?_
        rintro e w3 ⟨L, o, ho, rfl, hwin, hsum, honly⟩
        have HWN := Lib.hid hwin
        have HON := Lib.hid honly
        have HSM := Lib.hid hsum
        clear hwin honly hsum
        by_cases ho0 : o = 0
        · subst ho0
          have hf0 := fin0 (by have := HSM.out; rw [Nat.mul_zero, Nat.add_zero] at this; exact this) HES.out.ge HLD.out.vpos
          have HF0 := Lib.hid hf0
          clear hf0
          go_wp2_with fail
          go_ret
          exact ⟨L, ret_int (by rw [HF0.out.1] <;> first | rfl | (push_cast; omega) | omega), HWN.out, HF0.out.2, (Only.refl b off (off + (m + 3)) w).dr hdr |>.trans HON.out⟩
        · have ho1 : o = 1 := by omega
          subst ho1
          have hf1 := fin1 (P := BB ^ (m + 3)) (by have := HSM.out; rw [Nat.mul_one] at this; exact this) (by have := nv_lt HWN.out.lim; rwa [HWN.out.len_eq] at this) HUP.out HCLO.out HLD.out.vpos
          have HF1 := Lib.hid hf1
          clear hf1
          obtain ⟨Q, hQ⟩ : ∃ Q, nv S / nv T = Q := ⟨_, rfl⟩
          have hgq := HF1.out.1
          rw [hQ] at hgq
          have HQ := Lib.hid hQ
          have AI := Lib.hid (addInto_c b off (m + 3) cap L (some ⟨b', off', none⟩) (m + 2) cap' T w3 HWN.out hcap hcm ((hdr.rd HR.out).only HON.out HF.out) HF.out (by omega))
          clear hQ
          go_wp2_with fail
          refine AI.out.mono ?_
          rintro e w4 ⟨rfl, L2, hwin2, hL2, honly2⟩
          go_wp2_with fail
          go_ret
          exact ⟨L2, ret_int (by rw [HQ.out] <;> first | rfl | (push_cast; omega) | omega), hwin2, by rw [hL2]; exact HF1.out.2, ((Only.refl b off (off + (m + 3)) w).dr hdr |>.trans HON.out).trans honly2⟩
      · have hnz2 : ((((r : Int) + v1) / 4294967296) != 0) = false := by rw [bne_eq_false_iff_eq]; omega
        go_wp2
        go_roundw
        case rel => exact ⟨k, r + v1, by go_num, by go_num, by omega, by omega, HES, hdr⟩
        case measure => simp [intOf]
    · have hz : ((g : Int) / 4294967296 != 0) = false := by rw [bne_eq_false_iff_eq]; omega
      obtain ⟨pv, hpv⟩ : ∃ pv, g * v0 = pv := ⟨_, rfl⟩
      have hpl : pv < 18446744073709551616 := by
        rw [← hpv]
        exact Nat.lt_of_le_of_lt (Nat.mul_le_mul (show g ≤ 4294967295 by omega) (show v0 ≤ 4294967295 by omega)) (by decide)
      have hpi : IntKind.u64.wrap ((g : Int) * v0) = (pv : Nat) := by
        rw [show ((g : Int) * v0) = (pv : Nat) from by rw [← hpv]; push_cast; rfl]; simp [IntKind.wrap, IntKind.bits, IntKind.signed]; omega
      by_cases hgt : Y < pv
      · obtain ⟨hgp, hes⟩ := hest.out.step HLD.out (.inr (by rw [BB_eq, hpv]; omega))
        obtain ⟨k, hk⟩ : ∃ k, g - 1 = k := ⟨_, rfl⟩
        rw [hk] at hes
        have HES := Lib.hid hes
        have ek : (g : Int) - 1 = k := by omega
        have hkg : k < g := by omega
        clear hes hpv hY hk
        by_cases hbr : 4294967296 ≤ r + v1
        · have hnz2 : ((((r : Int) + v1) / 4294967296) != 0) = true := by rw [bne_iff_ne]; omega
          have HB := Lib.hid (HES.out.broke HLD.out (by rw [BB_eq]; exact hbr))
          have hkl : k < 4294967296 := HB.out.1
          have HCLO := Lib.hid (HES.out.close HLD.out HB.out.1 HB.out.2)
          have MS := Lib.hid (mulSub_c b off (m + 2) cap S (some ⟨b', off', none⟩) cap' T k wr (HW.out.dr hdr) hcap hcm (hdr.rd HR.out) HF.out hkl)
          go_wp2_with fail
          refine MS.out.mono ?_
          rintro e w3 ⟨L, o, ho, rfl, hwin, hsum, honly⟩
          have HWN := Lib.hid hwin
          have HON := Lib.hid honly
          have HSM := Lib.hid hsum
          clear hwin honly hsum
          by_cases ho0 : o = 0
          · subst ho0
            have hf0 := fin0 (by have := HSM.out; rw [Nat.mul_zero, Nat.add_zero] at this; exact this) HES.out.ge HLD.out.vpos
            have HF0 := Lib.hid hf0
            clear hf0
            go_wp2_with fail
            go_ret
            exact ⟨L, ret_int (by rw [HF0.out.1] <;> first | rfl | (push_cast; omega) | omega), HWN.out, HF0.out.2, (Only.refl b off (off + (m + 3)) w).dr hdr |>.trans HON.out⟩
          · have ho1 : o = 1 := by omega
            subst ho1
            have hf1 := fin1 (P := BB ^ (m + 3)) (by have := HSM.out; rw [Nat.mul_one] at this; exact this) (by have := nv_lt HWN.out.lim; rwa [HWN.out.len_eq] at this) HUP.out HCLO.out HLD.out.vpos
            have HF1 := Lib.hid hf1
            clear hf1
            obtain ⟨Q, hQ⟩ : ∃ Q, nv S / nv T = Q := ⟨_, rfl⟩
            have hgq := HF1.out.1
            rw [hQ] at hgq
            have HQ := Lib.hid hQ
            have AI := Lib.hid (addInto_c b off (m + 3) cap L (some ⟨b', off', none⟩) (m + 2) cap' T w3 HWN.out hcap hcm ((hdr.rd HR.out).only HON.out HF.out) HF.out (by omega))
            clear hQ
            go_wp2_with fail
            refine AI.out.mono ?_
            rintro e w4 ⟨rfl, L2, hwin2, hL2, honly2⟩
            go_wp2_with fail
            go_ret
            exact ⟨L2, ret_int (by rw [HQ.out] <;> first | rfl | (push_cast; omega) | omega), hwin2, by rw [hL2]; exact HF1.out.2, ((Only.refl b off (off + (m + 3)) w).dr hdr |>.trans HON.out).trans honly2⟩
        · have hnz2 : ((((r : Int) + v1) / 4294967296) != 0) = false := by rw [bne_eq_false_iff_eq]; omega
          go_wp2
          go_roundw
          case rel => exact ⟨k, r + v1, by go_num, by go_num, by omega, by omega, HES, hdr⟩
          case measure => simp [intOf]; omega
      · have hgl : g < 4294967296 := by omega
        have HCLO := Lib.hid (hest.out.close HLD.out hgl (by rw [BB_eq, hpv]; omega))
        clear hpv hY
        have MS := Lib.hid (mulSub_c b off (m + 2) cap S (some ⟨b', off', none⟩) cap' T g wr (HW.out.dr hdr) hcap hcm (hdr.rd HR.out) HF.out hgl)
        go_wp2_with fail
        refine MS.out.mono ?_
        rintro e w3 ⟨L, o, ho, rfl, hwin, hsum, honly⟩
        have HWN := Lib.hid hwin
        have HON := Lib.hid honly
        have HSM := Lib.hid hsum
        clear hwin honly hsum
        by_cases ho0 : o = 0
        · subst ho0
          have hf0 := fin0 (by have := HSM.out; rw [Nat.mul_zero, Nat.add_zero] at this; exact this) hest.out.ge HLD.out.vpos
          have HF0 := Lib.hid hf0
          clear hf0
          go_wp2_with fail
          go_ret
          exact ⟨L, ret_int (by rw [HF0.out.1] <;> first | rfl | (push_cast; omega) | omega), HWN.out, HF0.out.2, (Only.refl b off (off + (m + 3)) w).dr hdr |>.trans HON.out⟩
        · have ho1 : o = 1 := by omega
          subst ho1
          have hf1 := fin1 (P := BB ^ (m + 3)) (by have := HSM.out; rw [Nat.mul_one] at this; exact this) (by have := nv_lt HWN.out.lim; rwa [HWN.out.len_eq] at this) HUP.out HCLO.out HLD.out.vpos
          have HF1 := Lib.hid hf1
          clear hf1
          obtain ⟨Q, hQ⟩ : ∃ Q, nv S / nv T = Q := ⟨_, rfl⟩
          have hgq := HF1.out.1
          rw [hQ] at hgq
          have HQ := Lib.hid hQ
          have AI := Lib.hid (addInto_c b off (m + 3) cap L (some ⟨b', off', none⟩) (m + 2) cap' T w3 HWN.out hcap hcm ((hdr.rd HR.out).only HON.out HF.out) HF.out (by omega))
          clear hQ
          go_wp2_with fail
          refine AI.out.mono ?_
          rintro e w4 ⟨rfl, L2, hwin2, hL2, honly2⟩
          go_wp2_with fail
          go_ret
          exact ⟨L2, ret_int (by rw [HQ.out] <;> first | rfl | (push_cast; omega) | omega), hwin2, by rw [hL2]; exact HF1.out.2, ((Only.refl b off (off + (m + 3)) w).dr hdr |>.trans HON.out).trans honly2⟩
end Go.Proofs.YtgoiechhhnhgaaaDoor
