/- Carried over from another seat by program (portn.py). -/
import Derived.Test.YtnalmjbgkedcoaaDoorNb
namespace Go.Proofs.YtnalmjbgkedcoaaDoor
open Go.RowKit
set_option linter.unusedVariables false
/-- the lowest i limbs are subtracted -/
structure SubInv (S T L : List Nat) (i c : Nat) : Prop where
  borrow : c < 2
  rest : ∀ j, i ≤ j → L.getD j 0 = S.getD j 0
  sum : nv (S.take i) + BB ^ i * c = nv (L.take i) + nv (T.take i)
theorem SubInv.start (S T : List Nat) : SubInv S T S 0 0 := ⟨by omega, fun _ _ => rfl, by simp [nv]⟩
theorem SubInv.step {S T L : List Nat} {i c s t : Nat} (h : SubInv S T L i c) (hi : i < L.length) (hs : S.getD i 0 = s) (ht : T.getD i 0 = t) (hS : s < BB) (hT : t < BB) :
    SubInv S T (L.set i (sbD s t c)) (i + 1) (sbB s t c) := by
  refine ⟨sbB_lt _ _ _, fun j hj => ?_, ?_⟩
  · rw [getD_set_ne (by omega)]; exact h.rest j (by omega)
  · rw [nv_take_succ (L.set _ _), take_set, getD_set_same hi, nv_take_succ S, nv_take_succ T, hs, ht, Nat.pow_succ]
    have h1 := sb_eq hS hT h.borrow
    have h2 := h.sum
    have h3 : BB ^ i * (sbD s t c + t + c) = BB ^ i * (s + BB * sbB s t c) := by rw [h1]
    rw [Nat.mul_add, Nat.mul_add, Nat.mul_add] at h3
    rw [Nat.mul_assoc]
    omega
theorem SubInv.done {S T L : List Nat} {i c n : Nat} (h : SubInv S T L i c) (hL : L.length = n) (hS : S.length = n) (hl : Lim L) (hT : T.length ≤ i) (hi : i ≤ n) (hz : c = 0 ∨ i = n) (hge : nv T ≤ nv S) :
    nv L = nv S - nv T := by
  have h2 := h.sum
  rw [List.take_of_length_le hT] at h2
  have hlt := nv_lt hl
  rw [hL] at hlt
  rcases hz with rfl | rfl
  · rw [nv_take_drop L (i := i) (by omega), nv_take_drop S (i := i) (by omega), nv_drop_ext h.rest]; omega
  · rw [List.take_of_length_le (by omega), List.take_of_length_le (by omega)] at h2
    have hc := h.borrow
    by_cases hc0 : c = 0
    · subst hc0; omega
    · have : c = 1 := by omega
      subst this
      omega
set_option maxHeartbeats 800000 in
theorem subFrom_c (b off n cap : Nat) (S : List Nat) (a' : Option Addr) (len' cap' : Nat) (T : List Nat) (w : World) (h : Win w b off n S) (hcap : n ≤ cap) (hcm : cap ≤ 9223372036854775807)
    (h' : Rd w a' len' cap' T) (hf : Far a' len' b) (hle : len' ≤ n) (hge : nv T ≤ nv S) :
    Calls Tryd.prog 89 #[.slice (some ⟨b, off, none⟩) n cap, .slice a' len' cap'] w (IPost b off n (nv S - nv T) w) := by
  have HW := Lib.hid h
  have HF := Lib.hid hf
  have HR := Lib.hid h'
  have HS := Lib.hid h.len_eq
  have HT := Lib.hid h'.len_eq
  have HG := Lib.hid hge
  have hlc' := h'.le_cap
  have hcm' := h'.cap_le
  clear h h' hf hge
  go_enter Tryd.func89, Tryd.ntmps89
  go_wp2
  go_loopw [10, 4] (fun i s wr => ∃ (k c : Nat) (L : List Nat), k ≤ len' ∧ i = .int .i64 k ∧ s = .int .u32 c ∧ c < 2 ∧ Hid (SubInv S T L k c) ∧ Hid (Win wr b off n L) ∧ Hid (Only b off (off + n) w wr)) (fun i _ _ => len' - (intOf i).toNat)
  case atStart => exact ⟨0, 0, S, by omega, rfl, rfl, by omega, Lib.hid (SubInv.start S T), HW, Lib.hid (Only.refl _ _ _ _)⟩
  case round =>
    obtain ⟨k, c, L, hk, rfl, rfl, hc, hinv, hwin, honly⟩ := hrel
    by_cases hlt : k < len'
    · obtain ⟨s, hs⟩ : ∃ s, S.getD k 0 = s := ⟨_, rfl⟩
      obtain ⟨t, ht⟩ : ∃ t, T.getD k 0 = t := ⟨_, rfl⟩
      have hsl : s < BB := by rw [← hs]; exact HW.out.lim.at k
      have htl : t < BB := by rw [← ht]; exact HR.out.lim.at k
      have hst := Lib.hid (hinv.out.step (by rw [hwin.out.len_eq]; omega) hs ht hsl htl)
      have c1 := hwin.out.cell k (by omega)
      rw [hinv.out.rest k (Nat.le_refl _), hs] at c1
      have f1 := hwin.out.free k (by omega)
      have hr2 := HR.out.only honly.out HF.out
      rcases hr2.cells with h0 | ⟨b', off', e, h0⟩
      · omega
      have c2 := h0 k hlt
      rw [ht] at c2
      obtain ⟨D, hD⟩ : ∃ D, sbD s t c = D := ⟨_, rfl⟩
      obtain ⟨B, hB⟩ : ∃ B, sbB s t c = B := ⟨_, rfl⟩
      have hDl : D < BB := by rw [← hD]; exact sbD_lt _ _ _
      have hBl : B < 2 := by rw [← hB]; exact sbB_lt _ _ _
      have SB := Lib.hid (sub32_c s t c wr hsl htl hc)
      rw [hD, hB] at SB hst
      have hwin2 := Lib.hid (hwin.out.set (i := k) (by omega) (x := D) hDl)
      have honly2 := Lib.hid (honly.out.set (j := off + k) (by omega) (by omega) (.int .u32 ↑D))
      clear hs ht hr2 h0 hD hB
      subst e
      go_wp2_with (go_at_call 100; refine SB.out.mono ?_; rintro e w' ⟨rfl, rfl⟩)
      go_roundw
      case rel => exact ⟨k + 1, B, _, by omega, by go_num, rfl, hBl, hst, hwin2, honly2⟩
      case measure => simp [intOf]; omega
    · have hkl : k = len' := by omega
      subst hkl
      go_wp2
      obtain ⟨wo, rfl⟩ : ∃ wo : World, wo = wr := ⟨_, rfl⟩
      go_loopw [7, 4] (fun i s wr => ∃ (j d : Nat) (M : List Nat), j ≤ n ∧ k ≤ j ∧ i = .int .i64 j ∧ s = .int .u32 d ∧ d < 2 ∧ Hid (SubInv S T M j d) ∧ Hid (Win wr b off n M) ∧ Hid (Only b off (off + n) w wr)) (fun i _ _ => n - (intOf i).toNat)
      case atStart => exact ⟨k, c, L, by omega, by omega, rfl, rfl, hc, hinv, hwin, honly⟩
      case round =>
        obtain ⟨j, d, M, hj, hkj, rfl, rfl, hd, hinv, hwin, honly⟩ := hrel
        by_cases hd0 : d = 0
        · subst hd0
          have hfin := Lib.hid (hinv.out.done hwin.out.len_eq HS.out hwin.out.lim (by rw [HT.out]; exact hkj) hj (.inl rfl) HG.out)
          go_wp2
          refine bodyPost_ret (results_none rfl _ _ _) rfl ?_
          exact ⟨rfl, M, hwin.out, hfin.out, honly.out⟩
        · have hne : ((d : Int) != 0) = true := by rw [bne_iff_ne]; omega
          by_cases hjn : j < n
          · obtain ⟨s, hs⟩ : ∃ s, S.getD j 0 = s := ⟨_, rfl⟩
            have hsl : s < BB := by rw [← hs]; exact HW.out.lim.at j
            have hst := Lib.hid (hinv.out.step (by rw [hwin.out.len_eq]; omega) hs (getD_over (by rw [HT.out]; omega)) hsl BB_pos)
            have c1 := hwin.out.cell j (by omega)
            rw [hinv.out.rest j (Nat.le_refl _), hs] at c1
            have f1 := hwin.out.free j (by omega)
            obtain ⟨D, hD⟩ : ∃ D, sbD s 0 d = D := ⟨_, rfl⟩
            obtain ⟨B, hB⟩ : ∃ B, sbB s 0 d = B := ⟨_, rfl⟩
            have hDl : D < BB := by rw [← hD]; exact sbD_lt _ _ _
            have hBl : B < 2 := by rw [← hB]; exact sbB_lt _ _ _
            have SB := Lib.hid (sub32_c s 0 d wr hsl (by omega) hd)
            rw [hD, hB] at SB hst
            have hwin2 := Lib.hid (hwin.out.set (i := j) (by omega) (x := D) hDl)
            have honly2 := Lib.hid (honly.out.set (j := off + j) (by omega) (by omega) (.int .u32 ↑D))
            clear hs hD hB
            go_wp2_with (go_at_call 100; refine SB.out.mono ?_; rintro e w' ⟨rfl, rfl⟩)
            go_roundw
            case rel => exact ⟨j + 1, B, _, by omega, by omega, by go_num, rfl, hBl, hst, hwin2, honly2⟩
            case measure => simp [intOf]; omega
          · have hjn : j = n := by omega
            have hfin := Lib.hid (hinv.out.done hwin.out.len_eq HS.out hwin.out.lim (by rw [HT.out]; exact hkj) hj (.inr hjn) HG.out)
            subst hjn
            go_wp2
            refine bodyPost_ret (results_none rfl _ _ _) rfl ?_
            exact ⟨rfl, M, hwin.out, hfin.out, honly.out⟩

/-- a number and an error -/
def NEPost (n : Nat) (err : Int) (w : World) (e : Ending) (w' : World) : Prop := ∃ a cap, e = Ending.returned (.tuple #[.slice a (dig n).length cap, .int .i64 err]) ∧ Rd w' a (dig n).length cap (dig n) ∧ Below w.heap.size w w'
theorem NEPost.nil {err : Int} {w w' : World} (h : Below w.heap.size w w') : NEPost 0 err w (.returned (.tuple #[.slice none 0 0, .int .i64 err])) w' := by
  refine ⟨none, 0, by rw [dig_zero]; rfl, ?_, h⟩
  rw [dig_zero]; exact Rd.nil _
def subE (a b : Nat) : Int := if a < b then 2 else 0
theorem subFrom_nil (a a' : Option Addr) (cap cap' : Nat) (w : World) :
    Calls Tryd.prog 89 #[.slice a 0 cap, .slice a' 0 cap'] w fun e w' => e = .returned (.tuple #[]) ∧ w = w' := by
  go_enter Tryd.func89, Tryd.ntmps89
  go_wp2
  refine wp_loop_rounds 1 ?_; rw [rounds_succ]
  go_wp2
  refine wp_loop_rounds 1 ?_; rw [rounds_succ]
  go_wp2
  go_end0
  exact ⟨rfl, rfl⟩
theorem cmpv_neg' {a b : Nat} (h : cmpv a b < 0) : a < b := by unfold cmpv at h; split at h <;> (try split at h) <;> omega
set_option maxHeartbeats 800000 in
theorem sub_c (a a' : Option Addr) (len cap len' cap' : Nat) (l t : List Nat) (w : World) (h : Rd w a len cap l) (h' : Rd w a' len' cap' t) (hb : len ≤ 1048576) (hb' : len' ≤ 1048576) :
    Calls Tryd.prog 70 #[.slice a len cap, .slice a' len' cap'] w (NEPost (nv l - nv t) (subE (nv l) (nv t)) w) := by
  have H := Lib.hid h
  have H' := Lib.hid h'
  have HC := Lib.hid (cmp_c _ _ _ _ _ _ _ _ w h h')
  by_cases hlt : nv l < nv t
  · have e1 : Hid (nv l - nv t = 0) := Lib.hid (by omega)
    have e2 : Hid (subE (nv l) (nv t) = 2) := Lib.hid (if_pos hlt)
    have e3 : Hid (cmpv (nv l) (nv t) = -1) := Lib.hid (cmpv_lt hlt)
    rw [e1.out, e2.out]
    rw [e3.out] at HC
    clear h h' hlt
    go_enter Tryd.func70, Tryd.ntmps70
    go_wp2_with (go_at_call 50; refine HC.out.mono ?_; rintro e w1 ⟨rfl, hdr⟩)
    go_ret2
    exact NEPost.nil (hdr.below (Below.refl _ _))
  · have e2 : Hid (subE (nv l) (nv t) = 0) := Lib.hid (if_neg hlt)
    obtain ⟨z, hz⟩ : ∃ z, cmpv (nv l) (nv t) = z := ⟨_, rfl⟩
    have hz0 : ¬ z < 0 := by rw [← hz]; intro h; exact hlt (cmpv_neg' h)
    rw [hz] at HC
    rw [e2.out]
    have HT := h.trimmed
    have HT' := h'.trimmed
    have hle := dig_length_le h.lim
    rw [h.len_eq] at hle
    have hlen := dig_len_le (show nv t ≤ nv l by omega)
    obtain ⟨x, hx⟩ : ∃ x, dig (nv l) = x := ⟨_, rfl⟩
    obtain ⟨y, hy⟩ : ∃ y, dig (nv t) = y := ⟨_, rfl⟩
    have hX : Hid (nv x = nv l) := Lib.hid (by rw [← hx, nv_dig])
    have hY : Hid (nv y = nv t) := Lib.hid (by rw [← hy, nv_dig])
    have HGE : Hid (nv y ≤ nv x) := Lib.hid (by rw [hX.out, hY.out]; omega)
    obtain ⟨n, hn⟩ : ∃ n, x.length = n := ⟨_, rfl⟩
    obtain ⟨m, hm⟩ : ∃ m, y.length = m := ⟨_, rfl⟩
    have HX : Hid ((dig (nv l)).length = n) := Lib.hid (by rw [hx, hn])
    have HY : Hid ((dig (nv t)).length = m) := Lib.hid (by rw [hy, hm])
    have HN := Lib.hid hn
    rw [hx, hn] at HT hle
    rw [hy, hm] at HT'
    rw [hx, hy, hn, hm] at hlen
    have HRX := Lib.hid HT
    have HRY := Lib.hid HT'
    clear h h' hx hy hn hm HT HT' hlt hz
    go_enter Tryd.func70, Tryd.ntmps70
    go_wp2_with fail
    refine HC.out.mono ?_
    rintro e w1 ⟨rfl, hdr⟩
    have H1 := Lib.hid (hdr.rd H.out)
    have H1' := Lib.hid (hdr.rd H'.out)
    have HRX1 := Lib.hid (hdr.rd HRX.out)
    have HRY1 := Lib.hid (hdr.rd HRY.out)
    have hb0 := hdr.below (Below.refl w.heap.size w)
    have hsz : w.heap.size ≤ w1.heap.size := hb0.size
    go_wp2_with fail
    refine (trim_c _ _ _ l _ H1.out).mono ?_
    rw [HX.out]
    rintro e w' ⟨rfl, rfl⟩
    go_wp2_with fail
    refine (trim_c _ _ _ t _ H1'.out).mono ?_
    rw [HY.out]
    rintro e w' ⟨rfl, rfl⟩
    go_wp2_with fail
    refine (clone_c _ _ _ _ _ HRX1.out (by omega)).mono ?_
    rintro e w2 ⟨v, rfl, ho, hl, hb2⟩
    by_cases hx0 : x = []
    · subst hx0
      have hn0 : n = 0 := HN.out.symm
      subst hn0
      have hm0 : m = 0 := by omega
      subst hm0
      obtain ⟨va, vc, rfl⟩ := own_slice ho
      obtain ⟨va', vc', hv, hr⟩ := Rd.owns ho hl
      injection hv with hv1 hv2 hv3
      subst hv1
      subst hv3
      have e4 : Hid (nv l - nv t = nv []) := Lib.hid (by rw [← hX.out]; simp [nv])
      have HR := Lib.hid hr
      clear ho hr hv2
      go_wp2_with fail
      refine (subFrom_nil _ _ _ _ _).mono ?_
      rintro e w3 ⟨rfl, rfl⟩
      go_wp2_with fail
      refine (trim_c _ _ _ _ _ HR.out).mono ?_
      rintro e w3 ⟨rfl, rfl⟩
      go_wp2_with fail
      go_ret2
      rw [e4.out]
      exact ⟨_, _, rfl, HR.out.trimmed, hb0.trans (hb2.mono hsz)⟩
    · obtain ⟨va, vc, rfl⟩ := own_slice ho
      obtain ⟨g, rfl, hg, hg2, hc1, hc2, hwin⟩ := Win.owns ho hl hx0
      rw [HN.out] at hwin hc1 ⊢
      have HW := Lib.hid hwin
      have HRY2 := Lib.hid (HRY1.out.below hb2)
      have HF := Lib.hid (HRY1.out.far hg)
      have hb3 := hb0.trans (hb2.mono hsz)
      clear ho hwin
      go_wp2_with fail
      refine (subFrom_c _ _ _ _ _ _ _ _ _ _ HW.out hc1 hc2 HRY2.out HF.out hlen HGE.out).mono ?_
      rintro e w3 ⟨rfl, L, hwin3, hL, ho3⟩
      rw [hX.out, hY.out] at hL
      have HW3 := Lib.hid hwin3
      have hb4 := hb3.trans (ho3.below (show w.heap.size ≤ g by omega))
      have HL := Lib.hid hL
      clear hwin3 ho3 hL
      go_wp2_with fail
      refine (trim_c _ _ _ _ _ (HW3.out.rd hc1 hc2)).mono ?_
      rintro e w4 ⟨rfl, rfl⟩
      go_wp2_with fail
      go_ret2
      rw [← HL.out]
      exact ⟨_, _, rfl, (HW3.out.rd hc1 hc2).trimmed, hb4⟩

/-- the lowest k limbs of the difference -/
structure RSub (l t L : List Nat) (k c : Nat) : Prop where
  borrow : c < 2
  len : L.length = k
  lim : Lim L
  sum : nv (l.take k) + BB ^ k * c = nv L + nv (t.take k)
theorem RSub.start (l t : List Nat) : RSub l t [] 0 0 := ⟨by omega, rfl, Lim.nil, by simp [nv]⟩
theorem nv_one (x : Nat) : nv [x] = x := by rw [nv, nv, Nat.mul_zero, Nat.add_zero]
theorem RSub.step {l t L : List Nat} {k c x y : Nat} (h : RSub l t L k c) (hx : l.getD k 0 = x) (hy : t.getD k 0 = y) (hX : x < BB) (hY : y < BB) :
    RSub l t (L ++ [sbD x y c]) (k + 1) (sbB x y c) := by
  have h1 := sb_eq hX hY h.borrow
  have hd := sbD_lt x y c
  have hb := sbB_lt x y c
  generalize sbD x y c = D at *
  generalize sbB x y c = B at *
  refine ⟨hb, by simp [h.len], h.lim.append (Lim.cons hd Lim.nil), ?_⟩
  rw [nv_append, h.len, nv_take_succ l, nv_take_succ t, hx, hy, Nat.pow_succ]
  have h2 := h.sum
  have h3 : BB ^ k * (D + y + c) = BB ^ k * (x + BB * B) := by rw [h1]
  rw [nv_one]
  rw [Nat.mul_add, Nat.mul_add, Nat.mul_add] at h3
  rw [Nat.mul_assoc]
  omega
theorem nv_take_all {l t : List Nat} {n : Nat} (h : nv t < BB ^ n) : nv (t.take n) = nv t := by
  by_cases hn : n ≤ t.length
  · have h1 := nv_take_drop t hn
    rcases Nat.eq_zero_or_pos (nv (t.drop n)) with h0 | h0
    · rw [h0] at h1; omega
    · have : BB ^ n * 1 ≤ BB ^ n * nv (t.drop n) := Nat.mul_le_mul_left _ h0
      omega
  · rw [List.take_of_length_le (by omega)]
theorem RSub.done {l t L : List Nat} {k c : Nat} (h : RSub l t L k c) (hl : Lim l) (h1 : l.length = k) (hge : nv t ≤ nv l) : nv L = nv l - nv t := by
  have h2 := h.sum
  have h3 := nv_lt hl
  rw [h1] at h3
  rw [List.take_of_length_le (by omega), nv_take_all (l := l) (by omega)] at h2
  have hc := h.borrow
  have h4 := nv_lt h.lim
  rw [h.len] at h4
  by_cases hc0 : c = 0
  · subst hc0; omega
  · have : c = 1 := by omega
    subst this
    omega
theorem sb_lo {x y c : Nat} (h : x < y + c) (hx : x < 4294967296) (hy : y < 4294967296) (hc : c < 2) : (x : Int) + 4294967296 - (↑y + ↑c) = (sbD x y c : Nat) ∧ sbB x y c = 1 := by
  refine ⟨?_, if_pos h⟩
  unfold sbD; omega
theorem sb_hi {x y c : Nat} (h : ¬ x < y + c) (hx : x < 4294967296) (hy : y < 4294967296) (hc : c < 2) : (x : Int) - (↑y + ↑c) = (sbD x y c : Nat) ∧ sbB x y c = 0 := by
  refine ⟨?_, if_neg h⟩
  unfold sbD; omega
set_option maxHeartbeats 1600000 in
theorem rsub_c (a a' : Option Addr) (len cap len' cap' : Nat) (l t : List Nat) (w : World) (h : Rd w a len cap l) (h' : Rd w a' len' cap' t) (hb : len ≤ 1048575) (hb' : len' ≤ 1048575) :
    Calls Tryd.prog 75 #[.slice a len cap, .slice a' len' cap'] w (NEPost (nv l - nv t) (subE (nv l) (nv t)) w) := by
  have H := Lib.hid h
  have H' := Lib.hid h'
  have HC := Lib.hid (rcmp_c _ _ _ _ _ _ _ _ w h h')
  by_cases hlt : nv l < nv t
  · have e1 : Hid (nv l - nv t = 0) := Lib.hid (by omega)
    have e2 : Hid (subE (nv l) (nv t) = 2) := Lib.hid (if_pos hlt)
    have e3 : Hid (cmpv (nv l) (nv t) = -1) := Lib.hid (cmpv_lt hlt)
    rw [e1.out, e2.out]
    rw [e3.out] at HC
    clear h h' hlt
    go_enter Tryd.func75, Tryd.ntmps75
    go_wp2_with (go_at_call 90; refine HC.out.mono ?_; rintro e w1 ⟨rfl, rfl⟩)
    go_ret2
    exact NEPost.nil (Below.refl _ _)
  · have e2 : Hid (subE (nv l) (nv t) = 0) := Lib.hid (if_neg hlt)
    have HGE : Hid (nv t ≤ nv l) := Lib.hid (by omega)
    obtain ⟨z, hz⟩ : ∃ z, cmpv (nv l) (nv t) = z := ⟨_, rfl⟩
    have hz0 : ¬ z < 0 := by rw [← hz]; intro h; exact hlt (cmpv_neg' h)
    rw [hz] at HC
    rw [e2.out]
    have HLL := Lib.hid h.len_eq
    clear h h' hz hlt
    go_enter Tryd.func75, Tryd.ntmps75
    go_wp2_with fail
    refine HC.out.mono ?_
    rintro e w1 ⟨rfl, rfl⟩
    go_wp2_with fail
    go_loopw [6, 7, 8] (fun o s i wr => ∃ (k c : Nat) (L : List Nat), k ≤ len ∧ i = .int .i64 k ∧ s = .int .u64 c ∧ c < 2 ∧ Hid (RSub l t L k c) ∧ Hid (wr.ownsRow w.heap.size 56 1 o k (lv L)) ∧ Hid (Below w.heap.size w wr)) (fun _ _ i _ => len - (intOf i).toNat)
    case atStart => exact ⟨0, 0, [], by omega, rfl, rfl, by omega, Lib.hid (RSub.start l t), Lib.hid (World.ownsRow_nil _ _ _ _), Lib.hid (Below.refl _ _)⟩
    case round =>
      obtain ⟨k, c, L, hk, rfl, rfl, hc, hinv, hown, hbel⟩ := hrel
      obtain ⟨va, vc, rfl⟩ := own_slice hown.out
      have H1 := Lib.hid (H.out.below hbel.out)
      have H1' := Lib.hid (H'.out.below hbel.out)
      have OG := Lib.hid (fun j => @own_ge wr w.heap.size 56 1 (.slice va k vc) k (lv L) hown.out j)
      by_cases hk2 : k < len
      · obtain ⟨x, hx⟩ : ∃ x, l.getD k 0 = x := ⟨_, rfl⟩
        obtain ⟨y, hy⟩ : ∃ y, t.getD k 0 = y := ⟨_, rfl⟩
        have hX : x < BB := by rw [← hx]; exact H.out.lim.at k
        have hY : y < BB := by rw [← hy]; exact H'.out.lim.at k
        have LX := Lib.hid (limb_c _ _ _ _ k wr H1.out)
        have LY := Lib.hid (limb_c _ _ _ _ k wr H1'.out)
        rw [hx] at LX
        rw [hy] at LY
        have hst0 := hinv.out.step hx hy hX hY
        have hDl := sbD_lt x y c
        rw [BB_eq] at hX hY
        obtain ⟨D, hD⟩ : ∃ D, sbD x y c = D := ⟨_, rfl⟩
        rw [hD] at hst0 hDl
        by_cases hxy : x < y + c
        · obtain ⟨q1, q2⟩ := sb_lo hxy hX hY hc
          rw [q2] at hst0
          rw [hD] at q1
          have hst := Lib.hid hst0
          have HO := Lib.hid (own_below hown.out ((Below.refl wr.heap.size wr).alloc (Nat.le_refl _) (.cells #[.int .u32 (↑x + 4294967296 - (↑y + ↑c))] 56)))
          have HR := Lib.hid (Rd.one' wr D (↑x + 4294967296 - (↑y + ↑c)) q1 hDl 56)
          have hba := hbel.out.alloc hbel.out.size (.cells #[.int .u32 (↑x + 4294967296 - (↑y + ↑c))] 56)
          have hsz : w.heap.size ≤ (wr.alloc (.cells #[.int .u32 (↑x + 4294967296 - (↑y + ↑c))] 56)).heap.size := hba.size
          have HBA := Lib.hid hba
          have HSZ := Lib.hid hsz
          clear hx hy hba hsz q1 q2 hst0 hDl hD
          go_wp2_with fail
          refine LX.out.mono ?_
          rintro e w' ⟨rfl, rfl⟩
          go_wp2_with fail
          refine LY.out.mono ?_
          rintro e w' ⟨rfl, rfl⟩
          go_wp2_with (at_builtin; refine wpList_append_rd rfl _ _ 22 22 rfl Tryd.underlying22 Tryd.underlying22 w.heap.size _ k _ rfl HO.out _ _ _ _ rfl HR.out (by omega) HSZ.out ?_)
          intro v w1 hown2 hgrow
          have hbel2 : Below w.heap.size w w1 := HBA.out.grown hgrow HSZ.out (fun j hj => OG.out j hj)
          rw [lv_snoc] at hown2
          clear hgrow
          go_wp2
          go_roundw
          case rel => exact ⟨k + 1, 1, _, by omega, by go_num, by go_num, by omega, hst, Lib.hid hown2, Lib.hid hbel2⟩
          case measure => simp [intOf]; omega
        · obtain ⟨q1, q2⟩ := sb_hi hxy hX hY hc
          rw [q2] at hst0
          rw [hD] at q1
          have hst := Lib.hid hst0
          have HO := Lib.hid (own_below hown.out ((Below.refl wr.heap.size wr).alloc (Nat.le_refl _) (.cells #[.int .u32 (↑x - (↑y + ↑c))] 56)))
          have HR := Lib.hid (Rd.one' wr D (↑x - (↑y + ↑c)) q1 hDl 56)
          have hba := hbel.out.alloc hbel.out.size (.cells #[.int .u32 (↑x - (↑y + ↑c))] 56)
          have hsz : w.heap.size ≤ (wr.alloc (.cells #[.int .u32 (↑x - (↑y + ↑c))] 56)).heap.size := hba.size
          have HBA := Lib.hid hba
          have HSZ := Lib.hid hsz
          clear hx hy hba hsz q1 q2 hst0 hDl hD
          go_wp2_with fail
          refine LX.out.mono ?_
          rintro e w' ⟨rfl, rfl⟩
          go_wp2_with fail
          refine LY.out.mono ?_
          rintro e w' ⟨rfl, rfl⟩
          go_wp2_with (at_builtin; refine wpList_append_rd rfl _ _ 22 22 rfl Tryd.underlying22 Tryd.underlying22 w.heap.size _ k _ rfl HO.out _ _ _ _ rfl HR.out (by omega) HSZ.out ?_)
          intro v w1 hown2 hgrow
          have hbel2 : Below w.heap.size w w1 := HBA.out.grown hgrow HSZ.out (fun j hj => OG.out j hj)
          rw [lv_snoc] at hown2
          clear hgrow
          go_wp2
          go_roundw
          case rel => exact ⟨k + 1, 0, _, by omega, by go_num, by go_num, by omega, hst, Lib.hid hown2, Lib.hid hbel2⟩
          case measure => simp [intOf]; omega
      · have hkl : k = len := by omega
        have hfin := Lib.hid (hinv.out.done H.out.lim (by rw [HLL.out, hkl]) HGE.out)
        have hlen : Hid (L.length = k) := Lib.hid hinv.out.len
        have hown1 := hown.out
        rw [← hlen.out] at hown1
        obtain ⟨va2, vc2, hv, hr2⟩ := Rd.owns hown1 hinv.out.lim
        injection hv with hv1 hv2 hv3
        subst hv1
        subst hv3
        rw [hlen.out] at hr2
        have HR2 := Lib.hid hr2
        clear hown1 hr2 hv2 hkl
        go_wp2_with fail
        refine (rmake_c _ _ _ _ _ HR2.out (by omega)).mono ?_
        rw [hfin.out]
        rintro e w2 ⟨a2, c2, rfl, hr3, hb3⟩
        have hb4 := hbel.out.trans (hb3.mono hbel.out.size)
        go_wp2_with fail
        go_ret2
        exact ⟨a2, c2, rfl, hr3, hb4⟩
end Go.Proofs.YtnalmjbgkedcoaaDoor
