/- Walks of layer 1: mulSimple. -/
import Derived.Test.YtgoiechhhnhgaaaDoorB4
import Derived.Test.YtgoiechhhnhgaaaDoorPlain9
namespace Go.Proofs.YtgoiechhhnhgaaaDoor
open Go.RowKit
set_option linter.unusedVariables false
set_option maxHeartbeats 1600000 in
theorem mulSimple_c (b off la lb cap : Nat) (P : List Nat) (a : Option Addr) (ca : Nat) (x : List Nat) (a' : Option Addr) (cb : Nat) (y : List Nat) (w : World) (h : Win w b off (la + lb) P) (hcap : la + lb ≤ cap) (hcm : cap ≤ 9223372036854775807)
    (hx : Rd w a la ca x) (hy : Rd w a' lb cb y) (fx : Far a la b) (fy : Far a' lb b) (h0 : MulOut x y P 0) :
    Calls Tryd.prog 57 #[.slice (some ⟨b, off, none⟩) (la + lb) cap, .slice a la ca, .slice a' lb cb] w (IPost b off (la + lb) (nv x * nv y) w) := by
  have HW := Lib.hid h
  have FX := Lib.hid fx
  have FY := Lib.hid fy
  have RX := Lib.hid hx
  have RY := Lib.hid hy
  have LX := Lib.hid hx.len_eq
  have LY := Lib.hid hy.len_eq
  have H0 := Lib.hid h0
  have qa := hx.le_cap
  have qb := hx.cap_le
  have qc := hy.le_cap
  have qd := hy.cap_le
  clear h fx fy hx hy h0
  go_enter Tryd.func57, Tryd.ntmps57
  go_wp2
  go_loopw [13] (fun i wr => ∃ (k : Nat) (L : List Nat), k ≤ lb ∧ i = .int .i64 k ∧ Hid (MulOut x y L k) ∧ Hid (Win wr b off (la + lb) L) ∧ Hid (Only b off (off + (la + lb)) w wr)) (fun i _ => lb - (intOf i).toNat)
  case atStart => exact ⟨0, P, by omega, rfl, H0, HW, Lib.hid (Only.refl _ _ _ _)⟩
  case round =>
    obtain ⟨k, L, hk, rfl, hout, hwin, honly⟩ := hrel
    by_cases hlt : k < lb
    · obtain ⟨v, hv⟩ : ∃ v, y.getD k 0 = v := ⟨_, rfl⟩
      have hvl : v < 4294967296 := by rw [← hv]; exact RY.out.lim.at k
      have hr2 := RY.out.only honly.out FY.out
      rcases hr2.cells with h1 | ⟨b', off', e, h1⟩
      · omega
      have c2 := h1 k hlt
      rw [hv] at c2
      have HV := Lib.hid hv
      clear hv hr2 h1
      subst e
      by_cases hv0 : v = 0
      · subst hv0
        have hst := Lib.hid (hout.out.skip HV.out)
        go_wp2
        go_roundw
        case rel => exact ⟨k + 1, L, by omega, by go_num, hst, hwin, honly⟩
        case measure => simp [intOf]; omega
      · have hvB : ((v : Int) == 0) = false := by simp; omega
        go_wp2
        obtain ⟨wo, rfl⟩ : ∃ wo : World, wo = wr := ⟨_, rfl⟩
        go_loopw [8, 22] (fun s i wr => ∃ (j c : Nat) (M : List Nat), j ≤ la ∧ i = .int .i64 j ∧ s = .int .u64 c ∧ c < 4294967296 ∧ Hid (MulIn L x M v k j c) ∧ Hid (Win wr b off (la + lb) M) ∧ Hid (Only b off (off + (la + lb)) w wr)) (fun _ i _ => la - (intOf i).toNat)
        case atStart => exact ⟨0, 0, L, by omega, rfl, rfl, by omega, Lib.hid (MulIn.start L x v k), hwin, honly⟩
        case round =>
          obtain ⟨j, c, M, hj, rfl, rfl, hc, hin, hwm, hom⟩ := hrel
          by_cases hja : j < la
          · obtain ⟨t, ht⟩ : ∃ t, x.getD j 0 = t := ⟨_, rfl⟩
            obtain ⟨p, hp⟩ : ∃ p, L.getD (k + j) 0 = p := ⟨_, rfl⟩
            have htl : t < BB := by rw [← ht]; exact RX.out.lim.at j
            have hpl : p < BB := by rw [← hp]; exact hwin.out.lim.at _
            obtain ⟨m, hm⟩ : ∃ m, t * v = m := ⟨_, rfl⟩
            obtain ⟨u, hu⟩ : ∃ u, c + (m + p) = u := ⟨_, rfl⟩
            have hub : u < 18446744073709551616 := by rw [← hu, ← hm]; exact mul_bound htl hvl hpl hc
            have hst0 := hin.out.step (v := u) (by rw [hwm.out.len_eq]; omega) ht hp htl hvl hpl (by rw [hm]; exact hu)
            have c1 := hwm.out.cell (k + j) (by omega)
            rw [hin.out.same _ (Nat.le_refl _), hp] at c1
            have f1 := hwm.out.free (k + j) (by omega)
            have hr2 := RX.out.only hom.out FX.out
            rcases hr2.cells with h1 | ⟨b3, off3, e, h1⟩
            · omega
            have c3 := h1 j hja
            rw [ht] at c3
            have hwin2 := Lib.hid (hwm.out.set' (i := k + j) (by omega) (x := u % BB) (Nat.mod_lt _ BB_pos) (X := (u : Int) % 4294967296) (by simp [BB_eq]))
            have honly2 := Lib.hid (hom.out.set (j := off + (k + j)) (by omega) (by omega) (.int .u32 ((u : Int) % 4294967296)))
            rw [show u / BB = u / 4294967296 from by rw [BB_eq]] at hst0
            have hst := Lib.hid hst0
            have hmi : IntKind.u64.wrap ((t : Int) * v) = (m : Nat) := by
              rw [show ((t : Int) * v) = (m : Nat) from by rw [← hm]; push_cast; rfl]
              simp [IntKind.wrap, IntKind.bits, IntKind.signed]; omega
            have hui : ((c : Int) + ((m : Int) + p)) = (u : Nat) := by rw [← hu]; push_cast; rfl
            rw [BB_eq] at htl hpl
            clear ht hp hm hr2 h1 hst0
            have hmb : m < 18446744073709551616 := by omega
            have HU := Lib.hid hu
            clear hu
            subst e
            go_wp2
            go_roundw
            case rel => exact ⟨j + 1, u / 4294967296, _, by omega, by go_num, by go_num, by omega, hst, hwin2, honly2⟩
            case measure => simp [intOf]; omega
          · have hjn : j = la := by omega
            subst hjn
            have hst := Lib.hid (hout.out.next hin.out LX.out HV.out (by rw [hwm.out.len_eq]; omega))
            have c0 := hwm.out.cell (k + j) (by omega)
            have f1 := hwm.out.free (k + j) (by omega)
            have hwin2 := Lib.hid (hwm.out.set (i := k + j) (by omega) (x := c) hc)
            have honly2 := Lib.hid (hom.out.set (j := off + (k + j)) (by omega) (by omega) (.int .u32 ↑c))
            go_wp2
            go_roundw
            case rel => exact ⟨k + 1, _, by omega, by go_num, hst, hwin2, honly2⟩
            case measure => simp [intOf]; omega
    · have hkl : k = lb := by omega
      subst hkl
      have hfin := Lib.hid (hout.out.done (by rw [LY.out]; exact Nat.le_refl _))
      go_wp2
      refine bodyPost_ret (results_none rfl _ _ _) rfl ?_
      exact ⟨rfl, L, hwin.out, hfin.out, honly.out⟩
end Go.Proofs.YtgoiechhhnhgaaaDoor
