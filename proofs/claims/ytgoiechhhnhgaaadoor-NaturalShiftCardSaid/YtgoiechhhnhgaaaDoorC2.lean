/- Walks of layer 1: subFrom. -/
import Derived.Test.YtgoiechhhnhgaaaDoorC1
namespace Go.Proofs.YtgoiechhhnhgaaaDoor
open Go.RowKit
set_option linter.unusedVariables false
/-- the lowest i limbs are subtracted -/
structure SubInv (S T L : List Nat) (i c : Nat) : Prop where
  borrow : c < 2
  rest : ∀ j, i ≤ j → L.getD j 0 = S.getD j 0
  sum : nv (S.take i) + BB ^ i * c = nv (L.take i) + nv (T.take i)
theorem SubInv.start (S T : List Nat) : SubInv S T S 0 0 := ⟨by omega, fun _ _ => rfl, by simp [nv]⟩
theorem SubInv.step {S T L : List Nat} {i c s t : Nat} (h : SubInv S T L i c) (hi : i < L.length) (hs : S.getD i 0 = s) (ht : T.getD i 0 = t) (hS : s < BB) (hT : t < BB) :
    SubInv S T (L.set i (sbD s t c)) (i + 1) (sbB s t c) := by
  refine ⟨sbB_lt _ _ _, fun j hj => ?_, ?_⟩
  · rw [getD_set_ne (by omega)]; exact h.rest j (by omega)
  · rw [nv_take_succ (L.set _ _), take_set, getD_set_same hi, nv_take_succ S, nv_take_succ T, hs, ht, Nat.pow_succ]
    have h1 := sb_eq hS hT h.borrow
    have h2 := h.sum
    have h3 : BB ^ i * (sbD s t c + t + c) = BB ^ i * (s + BB * sbB s t c) := by rw [h1]
    rw [Nat.mul_add, Nat.mul_add, Nat.mul_add] at h3
    rw [Nat.mul_assoc]
    omega
theorem SubInv.done {S T L : List Nat} {i c n : Nat} (h : SubInv S T L i c) (hL : L.length = n) (hS : S.length = n) (hl : Lim L) (hT : T.length ≤ i) (hi : i ≤ n) (hz : c = 0 ∨ i = n) (hge : nv T ≤ nv S) :
    nv L = nv S - nv T := by
  have h2 := h.sum
  rw [List.take_of_length_le hT] at h2
  have hlt := nv_lt hl
  rw [hL] at hlt
  rcases hz with rfl | rfl
  · rw [nv_take_drop L (i := i) (by omega), nv_take_drop S (i := i) (by omega), nv_drop_ext h.rest]; omega
  · rw [List.take_of_length_le (by omega), List.take_of_length_le (by omega)] at h2
    have hc := h.borrow
    by_cases hc0 : c = 0
    · subst hc0; omega
    · have : c = 1 := by omega
      subst this
      omega
set_option maxHeartbeats 800000 in
theorem subFrom_c (b off n cap : Nat) (S : List Nat) (a' : Option Addr) (len' cap' : Nat) (T : List Nat) (w : World) (h : Win w b off n S) (hcap : n ≤ cap) (hcm : cap ≤ 9223372036854775807)
    (h' : Rd w a' len' cap' T) (hf : Far a' len' b) (hle : len' ≤ n) (hge : nv T ≤ nv S) :
    Calls Tryd.prog 47 #[.slice (some ⟨b, off, none⟩) n cap, .slice a' len' cap'] w (IPost b off n (nv S - nv T) w) := by
  have HW := Lib.hid h
  have HF := Lib.hid hf
  have HR := Lib.hid h'
  have HS := Lib.hid h.len_eq
  have HT := Lib.hid h'.len_eq
  have HG := Lib.hid hge
  have hlc' := h'.le_cap
  have hcm' := h'.cap_le
  clear h h' hf hge
  go_enter Tryd.func47, Tryd.ntmps47
  go_wp2
  go_loopw [10, 4] (fun i s wr => ∃ (k c : Nat) (L : List Nat), k ≤ len' ∧ i = .int .i64 k ∧ s = .int .u32 c ∧ c < 2 ∧ Hid (SubInv S T L k c) ∧ Hid (Win wr b off n L) ∧ Hid (Only b off (off + n) w wr)) (fun i _ _ => len' - (intOf i).toNat)
  case atStart => exact ⟨0, 0, S, by omega, rfl, rfl, by omega, Lib.hid (SubInv.start S T), HW, Lib.hid (Only.refl _ _ _ _)⟩
  case round =>
    obtain ⟨k, c, L, hk, rfl, rfl, hc, hinv, hwin, honly⟩ := hrel
    by_cases hlt : k < len'
    · obtain ⟨s, hs⟩ : ∃ s, S.getD k 0 = s := ⟨_, rfl⟩
      obtain ⟨t, ht⟩ : ∃ t, T.getD k 0 = t := ⟨_, rfl⟩
      have hsl : s < BB := by rw [← hs]; exact HW.out.lim.at k
      have htl : t < BB := by rw [← ht]; exact HR.out.lim.at k
      have hst := Lib.hid (hinv.out.step (by rw [hwin.out.len_eq]; omega) hs ht hsl htl)
      have c1 := hwin.out.cell k (by omega)
      rw [hinv.out.rest k (Nat.le_refl _), hs] at c1
      have f1 := hwin.out.free k (by omega)
      have hr2 := HR.out.only honly.out HF.out
      rcases hr2.cells with h0 | ⟨b', off', e, h0⟩
      · omega
      have c2 := h0 k hlt
      rw [ht] at c2
      obtain ⟨D, hD⟩ : ∃ D, sbD s t c = D := ⟨_, rfl⟩
      obtain ⟨B, hB⟩ : ∃ B, sbB s t c = B := ⟨_, rfl⟩
      have hDl : D < BB := by rw [← hD]; exact sbD_lt _ _ _
      have hBl : B < 2 := by rw [← hB]; exact sbB_lt _ _ _
      have SB := Lib.hid (sub32_c s t c wr hsl htl hc)
      rw [hD, hB] at SB hst
      have hwin2 := Lib.hid (hwin.out.set (i := k) (by omega) (x := D) hDl)
      have honly2 := Lib.hid (honly.out.set (j := off + k) (by omega) (by omega) (.int .u32 ↑D))
      clear hs ht hr2 h0 hD hB
      subst e
      go_wp2_with (go_at_call 56; refine SB.out.mono ?_; rintro e w' ⟨rfl, rfl⟩)
      go_roundw
      case rel => exact ⟨k + 1, B, _, by omega, by go_num, rfl, hBl, hst, hwin2, honly2⟩
      case measure => simp [intOf]; omega
    · have hkl : k = len' := by omega
      subst hkl
      go_wp2
      obtain ⟨wo, rfl⟩ : ∃ wo : World, wo = wr := ⟨_, rfl⟩
      go_loopw [7, 4] (fun i s wr => ∃ (j d : Nat) (M : List Nat), j ≤ n ∧ k ≤ j ∧ i = .int .i64 j ∧ s = .int .u32 d ∧ d < 2 ∧ Hid (SubInv S T M j d) ∧ Hid (Win wr b off n M) ∧ Hid (Only b off (off + n) w wr)) (fun i _ _ => n - (intOf i).toNat)
      case atStart => exact ⟨k, c, L, by omega, by omega, rfl, rfl, hc, hinv, hwin, honly⟩
      case round =>
        obtain ⟨j, d, M, hj, hkj, rfl, rfl, hd, hinv, hwin, honly⟩ := hrel
        by_cases hd0 : d = 0
        · subst hd0
          have hfin := Lib.hid (hinv.out.done hwin.out.len_eq HS.out hwin.out.lim (by rw [HT.out]; exact hkj) hj (.inl rfl) HG.out)
          go_wp2
          refine bodyPost_ret (results_none rfl _ _ _) rfl ?_
          exact ⟨rfl, M, hwin.out, hfin.out, honly.out⟩
        · have hne : ((d : Int) != 0) = true := by rw [bne_iff_ne]; omega
          by_cases hjn : j < n
          · obtain ⟨s, hs⟩ : ∃ s, S.getD j 0 = s := ⟨_, rfl⟩
            have hsl : s < BB := by rw [← hs]; exact HW.out.lim.at j
            have hst := Lib.hid (hinv.out.step (by rw [hwin.out.len_eq]; omega) hs (getD_over (by rw [HT.out]; omega)) hsl BB_pos)
            have c1 := hwin.out.cell j (by omega)
            rw [hinv.out.rest j (Nat.le_refl _), hs] at c1
            have f1 := hwin.out.free j (by omega)
            obtain ⟨D, hD⟩ : ∃ D, sbD s 0 d = D := ⟨_, rfl⟩
            obtain ⟨B, hB⟩ : ∃ B, sbB s 0 d = B := ⟨_, rfl⟩
            have hDl : D < BB := by rw [← hD]; exact sbD_lt _ _ _
            have hBl : B < 2 := by rw [← hB]; exact sbB_lt _ _ _
            have SB := Lib.hid (sub32_c s 0 d wr hsl (by omega) hd)
            rw [hD, hB] at SB hst
            have hwin2 := Lib.hid (hwin.out.set (i := j) (by omega) (x := D) hDl)
            have honly2 := Lib.hid (honly.out.set (j := off + j) (by omega) (by omega) (.int .u32 ↑D))
            clear hs hD hB
            go_wp2_with (go_at_call 56; refine SB.out.mono ?_; rintro e w' ⟨rfl, rfl⟩)
            go_roundw
            case rel => exact ⟨j + 1, B, _, by omega, by omega, by go_num, rfl, hBl, hst, hwin2, honly2⟩
            case measure => simp [intOf]; omega
          · have hjn : j = n := by omega
            have hfin := Lib.hid (hinv.out.done hwin.out.len_eq HS.out hwin.out.lim (by rw [HT.out]; exact hkj) hj (.inr hjn) HG.out)
            subst hjn
            go_wp2
            refine bodyPost_ret (results_none rfl _ _ _) rfl ?_
            exact ⟨rfl, M, hwin.out, hfin.out, honly.out⟩
end Go.Proofs.YtgoiechhhnhgaaaDoor
