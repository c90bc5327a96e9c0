/- Walks of layer 1: DivMod, small and long. -/
import Derived.Test.YtgoiechhhnhgaaaDoorF1
namespace Go.Proofs.YtgoiechhhnhgaaaDoor
open Go.RowKit
set_option linter.unusedVariables false
theorem ofi_c (X : Int) (h : 0 ≤ X ∧ X < 18446744073709551616) (w : World) : Calls Tryd.prog 23 #[.int .u64 X] w (NPost X.toNat w) := by
  obtain ⟨n, rfl⟩ : ∃ n : Nat, X = n := ⟨X.toNat, by omega⟩
  exact of_c n (by omega) w
/-- what a call of Of leaves, hidden -/
def OfLeft (n : Nat) (e : Ending) (w w' : World) : Prop := NPost n w e w'
set_option maxHeartbeats 800000 in
theorem divMod_small (a a' : Option Addr) (len cap len' cap' : Nat) (l t : List Nat) (w : World) (h : Rd w a len cap l) (h' : Rd w a' len' cap' t) (hle : nv t ≤ nv l) (h0 : nv t ≠ 0) (hs : (dig (nv l)).length ≤ 2) :
    Calls Tryd.prog 38 #[.slice a len cap, .slice a' len' cap'] w (DMPost (nv l / nv t) (nv l % nv t) 0 w) := by
  have H := Lib.hid h
  have H' := Lib.hid h'
  obtain ⟨x, n, hx⟩ := Tm.mk' l
  obtain ⟨y, m, hy⟩ := Tm.mk' t
  have HX := Lib.hid hx.lend
  have HY := Lib.hid hy.lend
  have hm0 : m ≠ 0 := by
    intro e
    have h1 := hy.lend
    rw [e, List.length_eq_zero_iff, dig_nil_iff] at h1
    omega
  have HRX := Lib.hid (hx.rd h)
  have HRY := Lib.hid (hy.rd h')
  have hn : n ≤ 2 := by rw [← hx.lend]; exact hs
  have HC := Lib.hid (cmp_c _ _ _ _ _ _ _ _ w HRX.out HRY.out)
  rw [hx.val, hy.val] at HC
  obtain ⟨z, hz⟩ : ∃ z, cmpv (nv l) (nv t) = z := ⟨_, rfl⟩
  have hz0 : ¬ z < 0 := by rw [← hz]; intro h; have := cmpv_neg' h; omega
  rw [hz] at HC
  have hlt : nv l < 18446744073709551616 := by
    have h1 := nv_lt (dig_lim (nv l))
    rw [nv_dig] at h1
    have h2 : BB ^ (dig (nv l)).length ≤ BB ^ 2 := Nat.pow_le_pow_right BB_pos hs
    have h3 : BB ^ 2 = 18446744073709551616 := by decide
    omega
  have HU := fun w1 (hr : Rd w1 a n cap x) => uint_c _ _ _ _ w1 hr
  have HU' := fun w1 (hr : Rd w1 a' m cap' y) => uint_c _ _ _ _ w1 hr
  rw [hx.val, show uintV (nv l) = nv l from if_pos hlt] at HU
  rw [hy.val, show uintV (nv t) = nv t from if_pos (by omega)] at HU'
  obtain ⟨A, hA⟩ : ∃ A, nv l = A := ⟨_, rfl⟩
  obtain ⟨B, hB⟩ : ∃ B, nv t = B := ⟨_, rfl⟩
  rw [hA] at HU hlt hle ⊢
  rw [hB] at HU' hle h0 ⊢
  have KU := Lib.hid HU
  have KU' := Lib.hid HU'
  have hBl : B < 18446744073709551616 := by omega
  have hD : A / B < 18446744073709551616 := Nat.lt_of_le_of_lt (Nat.div_le_self _ _) hlt
  have hR : A % B < 18446744073709551616 := Nat.lt_of_le_of_lt (Nat.mod_le _ _) hlt
  obtain ⟨D, hDD⟩ : ∃ D, A / B = D := ⟨_, rfl⟩
  obtain ⟨R, hRR⟩ : ∃ R, A % B = R := ⟨_, rfl⟩
  rw [hDD] at hD ⊢
  rw [hRR] at hR ⊢
  have hqw : IntKind.u64.wrap ((A : Int) / B) = (D : Nat) := by
    rw [show ((A : Int) / B) = (D : Nat) from by rw [← hDD]; push_cast; rfl]
    simp [IntKind.wrap, IntKind.bits, IntKind.signed]; omega
  have hrw : ((A : Int) % B) = (R : Nat) := by rw [← hRR]; push_cast; rfl
  have htm : (A : Int).tmod B = (R : Nat) := by rw [← hRR]; exact (Int.ofNat_tmod A B).symm
  have OFQ := Lib.hid (fun w => of_c D hD w)
  have OFR := Lib.hid (fun w => of_c R hR w)
  have hmB : ((m : Int) == 0) = false := by simp; omega
  have hbz : ((B : Int) == 0) = false := by simp; omega
  clear h h' hx hy hz hA hB HU HU' hs hD hR hDD hRR
  go_enter Tryd.func38, Tryd.ntmps38
  go_wp2_with fail
  refine (trim_c _ _ _ l _ H.out).mono ?_
  rw [HX.out]
  rintro e w' ⟨rfl, rfl⟩
  go_wp2_with fail
  refine (trim_c _ _ _ t _ H'.out).mono ?_
  rw [HY.out]
  rintro e w' ⟨rfl, rfl⟩
  go_wp2_with fail
  refine HC.out.mono ?_
  rintro e w1 ⟨rfl, hdr⟩
  have HRX1 := Lib.hid (hdr.rd HRX.out)
  have HRY1 := Lib.hid (hdr.rd HRY.out)
  have hb0 := hdr.below (Below.refl w.heap.size w)
  clear hdr
  go_wp2_with fail
  refine (KU.out _ HRX1.out).mono ?_
  rintro e w2 ⟨rfl, hdr⟩
  have HRY2 := Lib.hid (hdr.rd HRY1.out)
  have hb2 := hdr.below hb0
  clear hdr
  go_wp2_with fail
  refine (KU'.out _ HRY2.out).mono ?_
  rintro e w3 ⟨rfl, hdr⟩
  have hb3 := hdr.below hb2
  clear hdr
  go_wp2_with fail
  go_region_with (first | (go_at_call 23; ((with_reducible refine (OFQ.out _).mono ?_); rintro e w' ⟨qa, qc, rfl, hq, hqb⟩)) | (go_at_call 23; ((with_reducible refine (OFR.out _).mono ?_); rintro e w' ⟨ra, rc, rfl, hr, hrb⟩)))
  rename_i wq
  have hb3' : Below w.heap.size w w3.drew := hb3.trans ⟨rfl, rfl, rfl, Nat.le_refl _, fun _ _ => rfl⟩
  have hb4 : Below w.heap.size w w' := (hb3'.trans (hqb.mono hb3'.size)).trans (hrb.mono (Nat.le_trans hb3'.size hqb.size))
  have hq2 := hq.below hrb
  obtain ⟨lq, hlq⟩ : ∃ lq, (dig D).length = lq := ⟨_, rfl⟩
  have HLQ := Lib.hid hlq
  obtain ⟨lr, hlr⟩ : ∃ lr, (dig R).length = lr := ⟨_, rfl⟩
  have HLR := Lib.hid hlr
  rw [hlq] at hq2 ⊢
  rw [hlr] at hr ⊢
  have HRQ := Lib.hid hq2
  have HRR := Lib.hid hr
  clear hq hq2 hr hlq hlr hqw hrw htm
  go_wp2
  go_ret3
  unfold DMPost
  rw [HLQ.out, HLR.out]
  exact ⟨_, _, _, _, rfl, HRQ.out, HRR.out, hb4⟩
set_option maxHeartbeats 400000 in
theorem divMod_limb (a a' : Option Addr) (len cap len' cap' : Nat) (l t : List Nat) (w : World) (h : Rd w a len cap l) (h' : Rd w a' len' cap' t) (hb : len ≤ 1048576) (hle : nv t ≤ nv l) (hs : 2 < (dig (nv l)).length) (h1 : (dig (nv t)).length = 1) :
    Calls Tryd.prog 38 #[.slice a len cap, .slice a' len' cap'] w (DMPost (nv l / nv t) (nv l % nv t) 0 w) := by
  have H := Lib.hid h
  have H' := Lib.hid h'
  obtain ⟨x, n, hx⟩ := Tm.mk' l
  obtain ⟨y, m, hy⟩ := Tm.mk' t
  have HX := Lib.hid hx.lend
  have HY := Lib.hid h1
  have hn : 2 < n := by rw [← hx.lend]; exact hs
  have hnb : n ≤ 1048576 := by have := dig_length_le h.lim; rw [h.len_eq, hx.lend] at this; omega
  have HRX := Lib.hid (hx.rd h)
  have HRY := Lib.hid (hy.rd h')
  obtain rfl : m = 1 := by rw [← hy.lend, h1]
  have HC := Lib.hid (cmp_c _ _ _ _ _ _ _ _ w HRX.out HRY.out)
  rw [hx.val, hy.val] at HC
  obtain ⟨z, hz⟩ : ∃ z, cmpv (nv l) (nv t) = z := ⟨_, rfl⟩
  have hz0 : ¬ z < 0 := by rw [← hz]; intro h; have := cmpv_neg' h; omega
  rw [hz] at HC
  have hvx := hx.val
  obtain ⟨v, rfl⟩ : ∃ v, y = [v] := List.length_eq_one_iff.1 hy.len
  have hv : nv t = v := by rw [← hy.val]; simp [nv]
  have hv0 : 0 < v := by
    rcases Nat.eq_zero_or_pos v with e | e
    · rw [← hv] at e
      rw [e, dig_zero] at h1
      simp at h1
    · exact e
  rw [← hvx, hv] at hle ⊢
  have hvl : v < 4294967296 := HRY.out.lim.head
  have hlc' := HRY.out.le_cap
  have hcm' := HRY.out.cap_le
  have hRl : nv x % v < 18446744073709551616 := by have := Nat.mod_lt (nv x) hv0; omega
  have hRl' : nv x % v < 4294967296 := by have := Nat.mod_lt (nv x) hv0; omega
  have OF := Lib.hid (fun w => of_c (nv x % v) hRl w)
  obtain ⟨R, hR⟩ : ∃ R, nv x % v = R := ⟨_, rfl⟩
  obtain ⟨Q, hQ⟩ : ∃ Q, nv x / v = Q := ⟨_, rfl⟩
  have DL := Lib.hid (fun w1 (hr : Rd w1 a n cap x) => divLimb_c _ _ _ _ v w1 hr hnb hv0 hvl)
  rw [hR, hQ] at DL
  rw [hR] at OF hRl hRl'
  rw [hR, hQ]
  rcases HRY.out.cells with hc | ⟨b', off', rfl, hc⟩
  · omega
  have c0 := hc 0 (by omega)
  simp at c0
  have hc1 : Hid (∀ w1, Dr w w1 → w1.cell? ⟨b', off', none⟩ = some (.int .u32 (v : Int))) := Lib.hid (fun w1 hd => by rw [hd.cell]; exact c0)
  clear h h' hx hy hz hs hvx hv h1 hc c0 hR hQ
  go_enter Tryd.func38, Tryd.ntmps38
  go_wp2_with fail
  refine (trim_c _ _ _ l _ H.out).mono ?_
  rw [HX.out]
  rintro e w' ⟨rfl, rfl⟩
  go_wp2_with fail
  refine (trim_c _ _ _ t _ H'.out).mono ?_
  rw [HY.out]
  rintro e w' ⟨rfl, rfl⟩
  go_wp2_with fail
  refine HC.out.mono ?_
  rintro e w1 ⟨rfl, hdr⟩
  have HRX1 := Lib.hid (hdr.rd HRX.out)
  have hb0 := hdr.below (Below.refl w.heap.size w)
  have c1 := hc1.out w1 hdr
  clear hdr
  go_wp2_with fail
  refine (DL.out _ HRX1.out).mono ?_
  unfold DlPost
  obtain ⟨lq, hlq⟩ : ∃ lq, (dig Q).length = lq := ⟨_, rfl⟩
  have HLQ := Lib.hid hlq
  rw [hlq]
  rintro e w2 ⟨qa, qc, rfl, hrq, hb2⟩
  have HRQ := Lib.hid hrq
  have hb3 := hb0.trans (hb2.mono hb0.size)
  clear hrq hlq
  go_wp2_with fail
  refine (OF.out _).mono ?_
  unfold NPost
  obtain ⟨lr, hlr⟩ : ∃ lr, (dig R).length = lr := ⟨_, rfl⟩
  have HLR := Lib.hid hlr
  rw [hlr]
  rintro e w4 ⟨ra, rc, rfl, hrr, hb4⟩
  have HRR := Lib.hid hrr
  have HRQ4 := Lib.hid (HRQ.out.below hb4)
  have hb5 := hb3.trans (hb4.mono hb3.size)
  clear hrr hlr
  go_wp2_with fail
  go_ret3
  unfold DMPost
  rw [HLQ.out, HLR.out]
  exact ⟨_, _, _, _, rfl, HRQ4.out, HRR.out, hb5⟩
set_option maxHeartbeats 400000 in
theorem divMod_long (a a' : Option Addr) (len cap len' cap' : Nat) (l t : List Nat) (w : World) (h : Rd w a len cap l) (h' : Rd w a' len' cap' t) (hb : len ≤ 1048576) (hle : nv t ≤ nv l) (hs : 2 < (dig (nv l)).length) (h1 : 2 ≤ (dig (nv t)).length) :
    Calls Tryd.prog 38 #[.slice a len cap, .slice a' len' cap'] w (DMPost (nv l / nv t) (nv l % nv t) 0 w) := by
  have H := Lib.hid h
  have H' := Lib.hid h'
  obtain ⟨x, n, hx⟩ := Tm.mk' l
  obtain ⟨y, m, hy⟩ := Tm.mk' t
  have HX := Lib.hid hx.lend
  have HY := Lib.hid hy.lend
  have hn : 2 < n := by rw [← hx.lend]; exact hs
  have hnb : n ≤ 1048576 := by have := dig_length_le h.lim; rw [h.len_eq, hx.lend] at this; omega
  have HRX := Lib.hid (hx.rd h)
  have HRY := Lib.hid (hy.rd h')
  have hm2 : 2 ≤ m := by rw [← hy.lend]; exact h1
  have hmn : m ≤ n := by rw [← hy.lend, ← hx.lend]; exact dig_len_le hle
  have HC := Lib.hid (cmp_c _ _ _ _ _ _ _ _ w HRX.out HRY.out)
  rw [hx.val, hy.val] at HC
  obtain ⟨z, hz⟩ : ∃ z, cmpv (nv l) (nv t) = z := ⟨_, rfl⟩
  have hz0 : ¬ z < 0 := by rw [← hz]; intro h; have := cmpv_neg' h; omega
  rw [hz] at HC
  have htop : y.getD (m - 2 + 1) 0 ≠ 0 := by
    have h3 := dig_top (n := nv t) (by intro e; rw [e, dig_zero] at h1; simp at h1)
    rw [hy.dg, hy.len] at h3
    rwa [show m - 2 + 1 = m - 1 from by omega]
  obtain ⟨k, rfl⟩ : ∃ k, m = k + 2 := ⟨m - 2, by omega⟩
  rw [Nat.add_sub_cancel] at htop
  have DL := Lib.hid (fun w1 (hr : Rd w1 a n cap x) (hr' : Rd w1 a' (k + 2) cap' y) => divLong_c _ _ _ _ _ _ _ _ w1 hr hr' hnb hmn htop)
  rw [hx.val, hy.val] at DL
  obtain ⟨R, hR⟩ : ∃ R, nv l % nv t = R := ⟨_, rfl⟩
  obtain ⟨Q, hQ⟩ : ∃ Q, nv l / nv t = Q := ⟨_, rfl⟩
  rw [hR, hQ] at DL
  rw [hR, hQ]
  clear h h' hx hy hz hs h1 hR hQ htop hle
  go_enter Tryd.func38, Tryd.ntmps38
  go_wp2_with fail
  refine (trim_c _ _ _ l _ H.out).mono ?_
  rw [HX.out]
  rintro e w' ⟨rfl, rfl⟩
  go_wp2_with fail
  refine (trim_c _ _ _ t _ H'.out).mono ?_
  rw [HY.out]
  rintro e w' ⟨rfl, rfl⟩
  go_wp2_with fail
  refine HC.out.mono ?_
  rintro e w1 ⟨rfl, hdr⟩
  have HRX1 := Lib.hid (hdr.rd HRX.out)
  have HRY1 := Lib.hid (hdr.rd HRY.out)
  have hb0 := hdr.below (Below.refl w.heap.size w)
  clear hdr
  go_wp2_with fail
  refine (DL.out _ HRX1.out HRY1.out).mono ?_
  unfold DvPost
  obtain ⟨lq, hlq⟩ : ∃ lq, (dig Q).length = lq := ⟨_, rfl⟩
  have HLQ := Lib.hid hlq
  obtain ⟨lr, hlr⟩ : ∃ lr, (dig R).length = lr := ⟨_, rfl⟩
  have HLR := Lib.hid hlr
  rw [hlq, hlr]
  rintro e w2 ⟨qa, qc, ra, rc, rfl, hrq, hrr, hb2⟩
  have HRQ := Lib.hid hrq
  have HRR := Lib.hid hrr
  have hb3 := hb0.trans (hb2.mono hb0.size)
  clear hrq hrr hlq hlr
  go_wp2_with fail
  go_ret3
  unfold DMPost
  rw [HLQ.out, HLR.out]
  exact ⟨_, _, _, _, rfl, HRQ.out, HRR.out, hb3⟩
theorem divMod_c (a a' : Option Addr) (len cap len' cap' : Nat) (l t : List Nat) (w : World) (h : Rd w a len cap l) (h' : Rd w a' len' cap' t) (hb : len ≤ 1048576) :
    Calls Tryd.prog 38 #[.slice a len cap, .slice a' len' cap'] w (DMPost (nv l / nv t) (dmR (nv l) (nv t)) (dmE (nv t)) w) := by
  by_cases h0 : nv t = 0
  · have := divMod_zero _ _ _ _ _ _ _ _ w h h' h0
    rw [h0, Nat.div_zero, show dmR (nv l) 0 = 0 from rfl, show dmE 0 = 3 from rfl]
    exact this
  · rw [show dmR (nv l) (nv t) = nv l % nv t from if_neg h0, show dmE (nv t) = 0 from if_neg h0]
    by_cases hlt : nv l < nv t
    · rw [Nat.div_eq_of_lt hlt, Nat.mod_eq_of_lt hlt]
      exact divMod_less _ _ _ _ _ _ _ _ w h h' hb hlt
    · by_cases hs : (dig (nv l)).length ≤ 2
      · exact divMod_small _ _ _ _ _ _ _ _ w h h' (by omega) h0 hs
      · by_cases h1 : (dig (nv t)).length = 1
        · exact divMod_limb _ _ _ _ _ _ _ _ w h h' hb (by omega) (by omega) h1
        · refine divMod_long _ _ _ _ _ _ _ _ w h h' hb (by omega) (by omega) ?_
          rcases Nat.eq_zero_or_pos (dig (nv t)).length with e | e
          · exact absurd (dig_nil_iff.1 (List.length_eq_zero_iff.1 e)) h0
          · omega
end Go.Proofs.YtgoiechhhnhgaaaDoor
