/- Carried over from another seat by program (portn.py). -/
import Derived.Test.YtnalmjbgkedcoaaDoorNc
import Derived.Test.YtnalmjbgkedcoaaDoorNy
import Derived.Deep.RegionWith
import Derived.Test.YtnalmjbgkedcoaaDoorNp8
import Derived.Laws.Bits64b
import Derived.Laws.BitsAllLaws
namespace Go.Proofs.YtnalmjbgkedcoaaDoor
open Go.RowKit
set_option linter.unusedVariables false
/-- what DivMod answers -/
def DMPost (q r : Nat) (err : Int) (w : World) (e : Ending) (w' : World) : Prop :=
  ∃ a cap a2 cap2, e = Ending.returned (.tuple #[.slice a (dig q).length cap, .slice a2 (dig r).length cap2, .int .i64 err]) ∧ Rd w' a (dig q).length cap (dig q) ∧ Rd w' a2 (dig r).length cap2 (dig r) ∧ Below w.heap.size w w'
def dmR (a b : Nat) : Nat := if b = 0 then 0 else a % b
def dmE (b : Nat) : Int := if b = 0 then 3 else 0
/-- trimmed limbs under names -/
structure Tm (l x : List Nat) (n : Nat) : Prop where
  dg : dig (nv l) = x
  len : x.length = n
  lend : (dig (nv l)).length = n
  val : nv x = nv l
theorem Tm.mk' (l : List Nat) : ∃ x n, Tm l x n := ⟨_, _, rfl, rfl, rfl, nv_dig _⟩
theorem Tm.rd {w : World} {a : Option Addr} {len cap : Nat} {l x : List Nat} {n : Nat} (h : Tm l x n) (hr : Rd w a len cap l) : Rd w a n cap x := by
  have := hr.trimmed
  rwa [h.lend, h.dg] at this
theorem divMod_zero (a a' : Option Addr) (len cap len' cap' : Nat) (l t : List Nat) (w : World) (h : Rd w a len cap l) (h' : Rd w a' len' cap' t) (h0 : nv t = 0) :
    Calls Tryd.prog 67 #[.slice a len cap, .slice a' len' cap'] w (DMPost 0 0 3 w) := by
  have H := Lib.hid h
  have H' := Lib.hid h'
  obtain ⟨x, n, hx⟩ := Tm.mk' l
  have HX := Lib.hid hx.lend
  have HY : Hid ((dig (nv t)).length = 0) := Lib.hid (by rw [h0, dig_zero]; rfl)
  have hz : Hid ((dig 0).length = 0) := Lib.hid (by rw [dig_zero]; rfl)
  have hz2 : Hid (dig 0 = []) := Lib.hid dig_zero
  clear h h' hx h0
  go_enter Tryd.func67, Tryd.ntmps67
  go_wp2_with fail
  refine (trim_c _ _ _ l _ H.out).mono ?_
  rw [HX.out]
  rintro e w' ⟨rfl, rfl⟩
  go_wp2_with fail
  refine (trim_c _ _ _ t _ H'.out).mono ?_
  rw [HY.out]
  rintro e w' ⟨rfl, rfl⟩
  go_wp2_with fail
  go_ret3
  unfold DMPost
  rw [hz.out, hz2.out]
  exact ⟨none, 0, none, 0, rfl, Rd.nil _, Rd.nil _, Below.refl _ _⟩
set_option maxHeartbeats 400000 in
theorem divMod_less (a a' : Option Addr) (len cap len' cap' : Nat) (l t : List Nat) (w : World) (h : Rd w a len cap l) (h' : Rd w a' len' cap' t) (hb : len ≤ 1048576) (hlt : nv l < nv t) :
    Calls Tryd.prog 67 #[.slice a len cap, .slice a' len' cap'] w (DMPost 0 (nv l) 0 w) := by
  have H := Lib.hid h
  have H' := Lib.hid h'
  obtain ⟨x, n, hx⟩ := Tm.mk' l
  obtain ⟨y, m, hy⟩ := Tm.mk' t
  have HX := Lib.hid hx.lend
  have HY := Lib.hid hy.lend
  have HDX := Lib.hid hx.dg
  have hm0 : m ≠ 0 := by
    intro e
    have h1 := hy.lend
    rw [e, List.length_eq_zero_iff, dig_nil_iff] at h1
    omega
  have HRX := Lib.hid (hx.rd h)
  have HRY := Lib.hid (hy.rd h')
  have hn : n ≤ 1048576 := by have := dig_length_le h.lim; rw [h.len_eq, hx.lend] at this; omega
  have HC := Lib.hid (cmp_c _ _ _ _ _ _ _ _ w HRX.out HRY.out)
  rw [hx.val, hy.val, cmpv_lt hlt] at HC
  have hz : Hid ((dig 0).length = 0) := Lib.hid (by rw [dig_zero]; rfl)
  have hz2 : Hid (dig 0 = []) := Lib.hid dig_zero
  have hmB : ((m : Int) == 0) = false := by simp; omega
  clear h h' hx hy hlt
  go_enter Tryd.func67, Tryd.ntmps67
  go_wp2_with fail
  refine (trim_c _ _ _ l _ H.out).mono ?_
  rw [HX.out]
  rintro e w' ⟨rfl, rfl⟩
  go_wp2_with fail
  refine (trim_c _ _ _ t _ H'.out).mono ?_
  rw [HY.out]
  rintro e w' ⟨rfl, rfl⟩
  go_wp2_with fail
  refine HC.out.mono ?_
  rintro e w1 ⟨rfl, hdr⟩
  have HRX1 := Lib.hid (hdr.rd HRX.out)
  have hb0 := hdr.below (Below.refl w.heap.size w)
  go_wp2_with fail
  refine (clone_c _ _ _ _ _ HRX1.out hn).mono ?_
  rintro e w2 hp
  obtain ⟨v, cc, rfl, hr, hb2⟩ := hp.npost (n := nv l) HDX.out.symm
  have HR2 := Lib.hid hr
  have hb3 := hb0.trans (hb2.mono hb0.size)
  clear hr
  go_wp2_with fail
  go_ret3
  unfold DMPost
  rw [hz.out, hz2.out]
  exact ⟨none, 0, _, _, rfl, Rd.nil _, HR2.out, hb3⟩

theorem ofi_c (X : Int) (h : 0 ≤ X ∧ X < 18446744073709551616) (w : World) : Calls Tryd.prog 53 #[.int .u64 X] w (NPost X.toNat w) := by
  obtain ⟨n, rfl⟩ : ∃ n : Nat, X = n := ⟨X.toNat, by omega⟩
  exact of_c n (by omega) w
/-- what a call of Of leaves, hidden -/
def OfLeft (n : Nat) (e : Ending) (w w' : World) : Prop := NPost n w e w'
set_option maxHeartbeats 800000 in
theorem divMod_small (a a' : Option Addr) (len cap len' cap' : Nat) (l t : List Nat) (w : World) (h : Rd w a len cap l) (h' : Rd w a' len' cap' t) (hle : nv t ≤ nv l) (h0 : nv t ≠ 0) (hs : (dig (nv l)).length ≤ 2) :
    Calls Tryd.prog 67 #[.slice a len cap, .slice a' len' cap'] w (DMPost (nv l / nv t) (nv l % nv t) 0 w) := by
  have H := Lib.hid h
  have H' := Lib.hid h'
  obtain ⟨x, n, hx⟩ := Tm.mk' l
  obtain ⟨y, m, hy⟩ := Tm.mk' t
  have HX := Lib.hid hx.lend
  have HY := Lib.hid hy.lend
  have hm0 : m ≠ 0 := by
    intro e
    have h1 := hy.lend
    rw [e, List.length_eq_zero_iff, dig_nil_iff] at h1
    omega
  have HRX := Lib.hid (hx.rd h)
  have HRY := Lib.hid (hy.rd h')
  have hn : n ≤ 2 := by rw [← hx.lend]; exact hs
  have HC := Lib.hid (cmp_c _ _ _ _ _ _ _ _ w HRX.out HRY.out)
  rw [hx.val, hy.val] at HC
  obtain ⟨z, hz⟩ : ∃ z, cmpv (nv l) (nv t) = z := ⟨_, rfl⟩
  have hz0 : ¬ z < 0 := by rw [← hz]; intro h; have := cmpv_neg' h; omega
  rw [hz] at HC
  have hlt : nv l < 18446744073709551616 := by
    have h1 := nv_lt (dig_lim (nv l))
    rw [nv_dig] at h1
    have h2 : BB ^ (dig (nv l)).length ≤ BB ^ 2 := Nat.pow_le_pow_right BB_pos hs
    have h3 : BB ^ 2 = 18446744073709551616 := by decide
    omega
  have HU := fun w1 (hr : Rd w1 a n cap x) => uint_c _ _ _ _ w1 hr
  have HU' := fun w1 (hr : Rd w1 a' m cap' y) => uint_c _ _ _ _ w1 hr
  rw [hx.val, show uintV (nv l) = nv l from if_pos hlt] at HU
  rw [hy.val, show uintV (nv t) = nv t from if_pos (by omega)] at HU'
  obtain ⟨A, hA⟩ : ∃ A, nv l = A := ⟨_, rfl⟩
  obtain ⟨B, hB⟩ : ∃ B, nv t = B := ⟨_, rfl⟩
  rw [hA] at HU hlt hle ⊢
  rw [hB] at HU' hle h0 ⊢
  have KU := Lib.hid HU
  have KU' := Lib.hid HU'
  have hBl : B < 18446744073709551616 := by omega
  have hD : A / B < 18446744073709551616 := Nat.lt_of_le_of_lt (Nat.div_le_self _ _) hlt
  have hR : A % B < 18446744073709551616 := Nat.lt_of_le_of_lt (Nat.mod_le _ _) hlt
  obtain ⟨D, hDD⟩ : ∃ D, A / B = D := ⟨_, rfl⟩
  obtain ⟨R, hRR⟩ : ∃ R, A % B = R := ⟨_, rfl⟩
  rw [hDD] at hD ⊢
  rw [hRR] at hR ⊢
  have hqw : IntKind.u64.wrap ((A : Int) / B) = (D : Nat) := by
    rw [show ((A : Int) / B) = (D : Nat) from by rw [← hDD]; push_cast; rfl]
    simp [IntKind.wrap, IntKind.bits, IntKind.signed]; omega
  have hrw : ((A : Int) % B) = (R : Nat) := by rw [← hRR]; push_cast; rfl
  have htm : (A : Int).tmod B = (R : Nat) := by rw [← hRR]; exact (Int.ofNat_tmod A B).symm
  have OFQ := Lib.hid (fun w => of_c D hD w)
  have OFR := Lib.hid (fun w => of_c R hR w)
  have hmB : ((m : Int) == 0) = false := by simp; omega
  have hbz : ((B : Int) == 0) = false := by simp; omega
  clear h h' hx hy hz hA hB HU HU' hs hD hR hDD hRR
  go_enter Tryd.func67, Tryd.ntmps67
  go_wp2_with fail
  refine (trim_c _ _ _ l _ H.out).mono ?_
  rw [HX.out]
  rintro e w' ⟨rfl, rfl⟩
  go_wp2_with fail
  refine (trim_c _ _ _ t _ H'.out).mono ?_
  rw [HY.out]
  rintro e w' ⟨rfl, rfl⟩
  go_wp2_with fail
  refine HC.out.mono ?_
  rintro e w1 ⟨rfl, hdr⟩
  have HRX1 := Lib.hid (hdr.rd HRX.out)
  have HRY1 := Lib.hid (hdr.rd HRY.out)
  have hb0 := hdr.below (Below.refl w.heap.size w)
  clear hdr
  go_wp2_with fail
  refine (KU.out _ HRX1.out).mono ?_
  rintro e w2 ⟨rfl, hdr⟩
  have HRY2 := Lib.hid (hdr.rd HRY1.out)
  have hb2 := hdr.below hb0
  clear hdr
  go_wp2_with fail
  refine (KU'.out _ HRY2.out).mono ?_
  rintro e w3 ⟨rfl, hdr⟩
  have hb3 := hdr.below hb2
  clear hdr
  go_wp2_with fail
  go_region_with (first | (go_at_call 53; ((with_reducible refine (OFQ.out _).mono ?_); rintro e w' ⟨qa, qc, rfl, hq, hqb⟩)) | (go_at_call 53; ((with_reducible refine (OFR.out _).mono ?_); rintro e w' ⟨ra, rc, rfl, hr, hrb⟩)))
  rename_i wq
  have hb3' : Below w.heap.size w w3.drew := hb3.trans ⟨rfl, rfl, rfl, Nat.le_refl _, fun _ _ => rfl⟩
  have hb4 : Below w.heap.size w w' := (hb3'.trans (hqb.mono hb3'.size)).trans (hrb.mono (Nat.le_trans hb3'.size hqb.size))
  have hq2 := hq.below hrb
  obtain ⟨lq, hlq⟩ : ∃ lq, (dig D).length = lq := ⟨_, rfl⟩
  have HLQ := Lib.hid hlq
  obtain ⟨lr, hlr⟩ : ∃ lr, (dig R).length = lr := ⟨_, rfl⟩
  have HLR := Lib.hid hlr
  rw [hlq] at hq2 ⊢
  rw [hlr] at hr ⊢
  have HRQ := Lib.hid hq2
  have HRR := Lib.hid hr
  clear hq hq2 hr hlq hlr hqw hrw htm
  go_wp2
  go_ret3
  unfold DMPost
  rw [HLQ.out, HLR.out]
  exact ⟨_, _, _, _, rfl, HRQ.out, HRR.out, hb4⟩
set_option maxHeartbeats 400000 in
theorem divMod_limb (a a' : Option Addr) (len cap len' cap' : Nat) (l t : List Nat) (w : World) (h : Rd w a len cap l) (h' : Rd w a' len' cap' t) (hb : len ≤ 1048576) (hle : nv t ≤ nv l) (hs : 2 < (dig (nv l)).length) (h1 : (dig (nv t)).length = 1) :
    Calls Tryd.prog 67 #[.slice a len cap, .slice a' len' cap'] w (DMPost (nv l / nv t) (nv l % nv t) 0 w) := by
  have H := Lib.hid h
  have H' := Lib.hid h'
  obtain ⟨x, n, hx⟩ := Tm.mk' l
  obtain ⟨y, m, hy⟩ := Tm.mk' t
  have HX := Lib.hid hx.lend
  have HY := Lib.hid h1
  have hn : 2 < n := by rw [← hx.lend]; exact hs
  have hnb : n ≤ 1048576 := by have := dig_length_le h.lim; rw [h.len_eq, hx.lend] at this; omega
  have HRX := Lib.hid (hx.rd h)
  have HRY := Lib.hid (hy.rd h')
  obtain rfl : m = 1 := by rw [← hy.lend, h1]
  have HC := Lib.hid (cmp_c _ _ _ _ _ _ _ _ w HRX.out HRY.out)
  rw [hx.val, hy.val] at HC
  obtain ⟨z, hz⟩ : ∃ z, cmpv (nv l) (nv t) = z := ⟨_, rfl⟩
  have hz0 : ¬ z < 0 := by rw [← hz]; intro h; have := cmpv_neg' h; omega
  rw [hz] at HC
  have hvx := hx.val
  obtain ⟨v, rfl⟩ : ∃ v, y = [v] := List.length_eq_one_iff.1 hy.len
  have hv : nv t = v := by rw [← hy.val]; simp [nv]
  have hv0 : 0 < v := by
    rcases Nat.eq_zero_or_pos v with e | e
    · rw [← hv] at e
      rw [e, dig_zero] at h1
      simp at h1
    · exact e
  rw [← hvx, hv] at hle ⊢
  have hvl : v < 4294967296 := HRY.out.lim.head
  have hlc' := HRY.out.le_cap
  have hcm' := HRY.out.cap_le
  have hRl : nv x % v < 18446744073709551616 := by have := Nat.mod_lt (nv x) hv0; omega
  have hRl' : nv x % v < 4294967296 := by have := Nat.mod_lt (nv x) hv0; omega
  have OF := Lib.hid (fun w => of_c (nv x % v) hRl w)
  obtain ⟨R, hR⟩ : ∃ R, nv x % v = R := ⟨_, rfl⟩
  obtain ⟨Q, hQ⟩ : ∃ Q, nv x / v = Q := ⟨_, rfl⟩
  have DL := Lib.hid (fun w1 (hr : Rd w1 a n cap x) => divLimb_c _ _ _ _ v w1 hr hnb hv0 hvl)
  rw [hR, hQ] at DL
  rw [hR] at OF hRl hRl'
  rw [hR, hQ]
  rcases HRY.out.cells with hc | ⟨b', off', rfl, hc⟩
  · omega
  have c0 := hc 0 (by omega)
  simp at c0
  have hc1 : Hid (∀ w1, Dr w w1 → w1.cell? ⟨b', off', none⟩ = some (.int .u32 (v : Int))) := Lib.hid (fun w1 hd => by rw [hd.cell]; exact c0)
  clear h h' hx hy hz hs hvx hv h1 hc c0 hR hQ
  go_enter Tryd.func67, Tryd.ntmps67
  go_wp2_with fail
  refine (trim_c _ _ _ l _ H.out).mono ?_
  rw [HX.out]
  rintro e w' ⟨rfl, rfl⟩
  go_wp2_with fail
  refine (trim_c _ _ _ t _ H'.out).mono ?_
  rw [HY.out]
  rintro e w' ⟨rfl, rfl⟩
  go_wp2_with fail
  refine HC.out.mono ?_
  rintro e w1 ⟨rfl, hdr⟩
  have HRX1 := Lib.hid (hdr.rd HRX.out)
  have hb0 := hdr.below (Below.refl w.heap.size w)
  have c1 := hc1.out w1 hdr
  clear hdr
  go_wp2_with fail
  refine (DL.out _ HRX1.out).mono ?_
  unfold DlPost
  obtain ⟨lq, hlq⟩ : ∃ lq, (dig Q).length = lq := ⟨_, rfl⟩
  have HLQ := Lib.hid hlq
  rw [hlq]
  rintro e w2 ⟨qa, qc, rfl, hrq, hb2⟩
  have HRQ := Lib.hid hrq
  have hb3 := hb0.trans (hb2.mono hb0.size)
  clear hrq hlq
  go_wp2_with fail
  refine (OF.out _).mono ?_
  unfold NPost
  obtain ⟨lr, hlr⟩ : ∃ lr, (dig R).length = lr := ⟨_, rfl⟩
  have HLR := Lib.hid hlr
  rw [hlr]
  rintro e w4 ⟨ra, rc, rfl, hrr, hb4⟩
  have HRR := Lib.hid hrr
  have HRQ4 := Lib.hid (HRQ.out.below hb4)
  have hb5 := hb3.trans (hb4.mono hb3.size)
  clear hrr hlr
  go_wp2_with fail
  go_ret3
  unfold DMPost
  rw [HLQ.out, HLR.out]
  exact ⟨_, _, _, _, rfl, HRQ4.out, HRR.out, hb5⟩
set_option maxHeartbeats 400000 in
theorem divMod_long (a a' : Option Addr) (len cap len' cap' : Nat) (l t : List Nat) (w : World) (h : Rd w a len cap l) (h' : Rd w a' len' cap' t) (hb : len ≤ 1048576) (hle : nv t ≤ nv l) (hs : 2 < (dig (nv l)).length) (h1 : 2 ≤ (dig (nv t)).length) :
    Calls Tryd.prog 67 #[.slice a len cap, .slice a' len' cap'] w (DMPost (nv l / nv t) (nv l % nv t) 0 w) := by
  have H := Lib.hid h
  have H' := Lib.hid h'
  obtain ⟨x, n, hx⟩ := Tm.mk' l
  obtain ⟨y, m, hy⟩ := Tm.mk' t
  have HX := Lib.hid hx.lend
  have HY := Lib.hid hy.lend
  have hn : 2 < n := by rw [← hx.lend]; exact hs
  have hnb : n ≤ 1048576 := by have := dig_length_le h.lim; rw [h.len_eq, hx.lend] at this; omega
  have HRX := Lib.hid (hx.rd h)
  have HRY := Lib.hid (hy.rd h')
  have hm2 : 2 ≤ m := by rw [← hy.lend]; exact h1
  have hmn : m ≤ n := by rw [← hy.lend, ← hx.lend]; exact dig_len_le hle
  have HC := Lib.hid (cmp_c _ _ _ _ _ _ _ _ w HRX.out HRY.out)
  rw [hx.val, hy.val] at HC
  obtain ⟨z, hz⟩ : ∃ z, cmpv (nv l) (nv t) = z := ⟨_, rfl⟩
  have hz0 : ¬ z < 0 := by rw [← hz]; intro h; have := cmpv_neg' h; omega
  rw [hz] at HC
  have htop : y.getD (m - 2 + 1) 0 ≠ 0 := by
    have h3 := dig_top (n := nv t) (by intro e; rw [e, dig_zero] at h1; simp at h1)
    rw [hy.dg, hy.len] at h3
    rwa [show m - 2 + 1 = m - 1 from by omega]
  obtain ⟨k, rfl⟩ : ∃ k, m = k + 2 := ⟨m - 2, by omega⟩
  rw [Nat.add_sub_cancel] at htop
  have DL := Lib.hid (fun w1 (hr : Rd w1 a n cap x) (hr' : Rd w1 a' (k + 2) cap' y) => divLong_c _ _ _ _ _ _ _ _ w1 hr hr' hnb hmn htop)
  rw [hx.val, hy.val] at DL
  obtain ⟨R, hR⟩ : ∃ R, nv l % nv t = R := ⟨_, rfl⟩
  obtain ⟨Q, hQ⟩ : ∃ Q, nv l / nv t = Q := ⟨_, rfl⟩
  rw [hR, hQ] at DL
  rw [hR, hQ]
  clear h h' hx hy hz hs h1 hR hQ htop hle
  go_enter Tryd.func67, Tryd.ntmps67
  go_wp2_with fail
  refine (trim_c _ _ _ l _ H.out).mono ?_
  rw [HX.out]
  rintro e w' ⟨rfl, rfl⟩
  go_wp2_with fail
  refine (trim_c _ _ _ t _ H'.out).mono ?_
  rw [HY.out]
  rintro e w' ⟨rfl, rfl⟩
  go_wp2_with fail
  refine HC.out.mono ?_
  rintro e w1 ⟨rfl, hdr⟩
  have HRX1 := Lib.hid (hdr.rd HRX.out)
  have HRY1 := Lib.hid (hdr.rd HRY.out)
  have hb0 := hdr.below (Below.refl w.heap.size w)
  clear hdr
  go_wp2_with fail
  refine (DL.out _ HRX1.out HRY1.out).mono ?_
  unfold DvPost
  obtain ⟨lq, hlq⟩ : ∃ lq, (dig Q).length = lq := ⟨_, rfl⟩
  have HLQ := Lib.hid hlq
  obtain ⟨lr, hlr⟩ : ∃ lr, (dig R).length = lr := ⟨_, rfl⟩
  have HLR := Lib.hid hlr
  rw [hlq, hlr]
  rintro e w2 ⟨qa, qc, ra, rc, rfl, hrq, hrr, hb2⟩
  have HRQ := Lib.hid hrq
  have HRR := Lib.hid hrr
  have hb3 := hb0.trans (hb2.mono hb0.size)
  clear hrq hrr hlq hlr
  go_wp2_with fail
  go_ret3
  unfold DMPost
  rw [HLQ.out, HLR.out]
  exact ⟨_, _, _, _, rfl, HRQ.out, HRR.out, hb3⟩
theorem divMod_c (a a' : Option Addr) (len cap len' cap' : Nat) (l t : List Nat) (w : World) (h : Rd w a len cap l) (h' : Rd w a' len' cap' t) (hb : len ≤ 1048576) :
    Calls Tryd.prog 67 #[.slice a len cap, .slice a' len' cap'] w (DMPost (nv l / nv t) (dmR (nv l) (nv t)) (dmE (nv t)) w) := by
  by_cases h0 : nv t = 0
  · have := divMod_zero _ _ _ _ _ _ _ _ w h h' h0
    rw [h0, Nat.div_zero, show dmR (nv l) 0 = 0 from rfl, show dmE 0 = 3 from rfl]
    exact this
  · rw [show dmR (nv l) (nv t) = nv l % nv t from if_neg h0, show dmE (nv t) = 0 from if_neg h0]
    by_cases hlt : nv l < nv t
    · rw [Nat.div_eq_of_lt hlt, Nat.mod_eq_of_lt hlt]
      exact divMod_less _ _ _ _ _ _ _ _ w h h' hb hlt
    · by_cases hs : (dig (nv l)).length ≤ 2
      · exact divMod_small _ _ _ _ _ _ _ _ w h h' (by omega) h0 hs
      · by_cases h1 : (dig (nv t)).length = 1
        · exact divMod_limb _ _ _ _ _ _ _ _ w h h' hb (by omega) (by omega) h1
        · refine divMod_long _ _ _ _ _ _ _ _ w h h' hb (by omega) (by omega) ?_
          rcases Nat.eq_zero_or_pos (dig (nv t)).length with e | e
          · exact absurd (dig_nil_iff.1 (List.length_eq_zero_iff.1 e)) h0
          · omega

/-- the table of math/bits lies in its variable -/
def Tab (w : World) : Prop := ∀ j, j < 64 → w.cell? ⟨0, j, none⟩ = some (.int .u8 ((Lib.deBruijn64tab.getD j 0 : Nat) : Int))
theorem Tab.below {w w' : World} (h : Tab w) (hb : Below w.heap.size w w') : Tab w' := fun j hj => (hb.cell (World.block_lt_of_cell? w _ (h j hj))).trans (h j hj)
theorem Tab.drewN {w : World} (h : Tab w) (n : Nat) : Tab (w.drewN n) := h
theorem Tab.dr {w w' : World} (h : Tab w) (d : Dr w w') : Tab w' := by obtain ⟨n, rfl⟩ := d; exact h
theorem tz64_core (x k idx : Nat) (w : World) (hx0 : ((x : Int) == 0) = false)
    (key : IntKind.u64.wrap (bits BinOp.and IntKind.u64 (x : Int) (IntKind.u64.wrap (-(x : Int))) * 285870213051353865) / 288230376151711744 = (idx : Int))
    (hi : idx < 64) (hk : k < 64) (hcell : w.cell? ⟨0, idx, none⟩ = some (.int .u8 k)) :
    Calls Tryd.prog 78 #[.int .u64 x] w fun e w' => e = .returned (.int .i64 k) ∧ w = w' := by
  go_enter Tryd.func78, Tryd.ntmps78
  go_wp2_with (simp only [key])
  go_ret
  exact ⟨rfl, rfl⟩
theorem tz64_key (x a : Nat) (hx : x < 18446744073709551616) (hx0 : x ≠ 0) (hlow : x &&& (18446744073709551616 - x) = a) :
    IntKind.u64.wrap (bits BinOp.and IntKind.u64 (x : Int) (IntKind.u64.wrap (-(x : Int))) * 285870213051353865) / 288230376151711744 = ((a * 285870213051353865 % 18446744073709551616 / 288230376151711744 : Nat) : Int) := by
  have e1 : IntKind.u64.wrap (-(x : Int)) = ((18446744073709551616 - x : Nat) : Int) := by rw [IntKind.wrap_u64]; omega
  rw [e1, bits_and_u64_nat x _ hx (by omega), hlow, IntKind.wrap_u64]
  omega
theorem tz64_c (x : Nat) (hx : x < 18446744073709551616) (h0 : x ≠ 0) (w : World) (hT : Tab w) :
    Calls Tryd.prog 78 #[.int .u64 x] w fun e w' => e = .returned (.int .i64 (tz x : Nat)) ∧ w = w' := by
  obtain ⟨hlow, hk⟩ := Lib.lowest_bit 64 x h0 hx
  obtain ⟨hi, htab⟩ := Lib.deBruijn64_at _ hk
  have hcell := hT _ hi
  rw [htab] at hcell
  exact tz64_core x _ _ w (by simp; omega) (tz64_key x _ hx h0 hlow) hi hk hcell
theorem or64n (a b : Nat) (ha : a < 18446744073709551616) (hb : b < 18446744073709551616) : bits .or .u64 (a : Int) (b : Int) = ((a ||| b : Nat) : Int) := bits_or_u64_nat a b ha hb
theorem gcdWord_zero (x y : Nat) (w : World) (hx : x < 18446744073709551616) (hy : y < 18446744073709551616) (h0 : x = 0 ∨ y = 0) :
    Calls Tryd.prog 62 #[.int .u64 x, .int .u64 y] w fun e w' => e = .returned (.int .u64 (Nat.gcd x y : Nat)) ∧ w = w' := by
  have ho : bits .or .u64 (x : Int) (y : Int) = (Nat.gcd x y : Nat) := by
    rw [or64n x y hx hy]
    rcases h0 with rfl | rfl <;> simp
  have HO := Lib.hid ho
  clear ho
  by_cases hx0 : x = 0
  · subst hx0
    go_enter Tryd.func62, Tryd.ntmps62
    go_wp2
    go_ret
    exact ⟨ret_int (HO.out.trans (by simp)), rfl⟩
  · have hy0 : y = 0 := by omega
    subst hy0
    have hx1 : ((x : Int) == 0) = false := by simp; omega
    go_enter Tryd.func62, Tryd.ntmps62
    go_wp2
    go_ret
    exact ⟨ret_int (HO.out.trans (by simp)), rfl⟩
set_option maxHeartbeats 800000 in
theorem gcdWord_pos (x y : Nat) (w : World) (hx : x < 18446744073709551616) (hy : y < 18446744073709551616) (hx0 : x ≠ 0) (hy0 : y ≠ 0) (hT : Tab w) :
    Calls Tryd.prog 62 #[.int .u64 x, .int .u64 y] w fun e w' => e = .returned (.int .u64 (Nat.gcd x y : Nat)) ∧ w = w' := by
  have hx1 : ((x : Int) == 0) = false := by simp; omega
  have hy1 : ((y : Int) == 0) = false := by simp; omega
  obtain ⟨o, ho⟩ : ∃ o, x ||| y = o := ⟨_, rfl⟩
  have hol : o < 18446744073709551616 := by rw [← ho]; exact or_lt hx hy
  have ho0 : o ≠ 0 := by rw [← ho]; exact or_ne hx0
  have hor : bits .or .u64 (x : Int) (y : Int) = (o : Nat) := by rw [or64n x y hx hy, ho]
  have T1 := Lib.hid (tz64_c o hol ho0 w hT)
  have T2 := Lib.hid (tz64_c x hx hx0 w hT)
  have HT := Lib.hid hT
  obtain ⟨G, hG⟩ : ∃ G, Nat.gcd (odp x) y = G := ⟨_, rfl⟩
  have HRES : Hid (Nat.gcd x y = G * 2 ^ tz o) := Lib.hid (by rw [gw_start hx0 hy0 hx hy, hG, ho])
  have HINV : Hid (GwInv G (odp x) y) := Lib.hid (by rw [← hG]; exact GwInv.start hx0 hx)
  have hxk : tz x < 64 := by obtain ⟨_, _, h⟩ := tz_dec hx0 hx; exact h
  have hok : tz o < 64 := by obtain ⟨_, _, h⟩ := tz_dec ho0 hol; exact h
  have hres : G * 2 ^ tz o < 18446744073709551616 := by rw [← HRES.out]; exact Nat.lt_of_le_of_lt (Nat.gcd_le_left _ (by omega)) hx
  have hpl := odp_le x
  obtain ⟨p, hp⟩ : ∃ p, odp x = p := ⟨_, rfl⟩
  have hsh : (x : Int) / 2 ^ tz x = (p : Nat) := by
    rw [← hp]
    unfold odp
    push_cast
    rfl
  have HS : Hid (IntKind.u64.wrap ((G : Int) * 2 ^ tz o) = ((G * 2 ^ tz o : Nat) : Int)) := Lib.hid (by
    rw [show ((G : Int) * 2 ^ tz o) = ((G * 2 ^ tz o : Nat) : Int) from by push_cast; rfl, IntKind.wrap_u64]
    omega)
  rw [hp] at HINV hpl
  obtain ⟨K, hK⟩ : ∃ K, tz o = K := ⟨_, rfl⟩
  rw [hK] at T1 HRES HS hok hres
  obtain ⟨K2, hK2⟩ : ∃ K2, tz x = K2 := ⟨_, rfl⟩
  rw [hK2] at T2 hsh hxk
  clear hT hG ho hp hK hK2 hres
  go_enter Tryd.func62, Tryd.ntmps62
  go_wp2_with (first | (go_at_call 78; ((with_reducible refine T1.out.mono ?_); rintro e w' ⟨rfl, rfl⟩)) | (go_at_call 78; ((with_reducible refine T2.out.mono ?_); rintro e w' ⟨rfl, rfl⟩)))
  clear hsh
  go_loop [0, 1] (fun s t => ∃ x y : Nat, s = .int .u64 x ∧ t = .int .u64 y ∧ x < 18446744073709551616 ∧ y < 18446744073709551616 ∧ Hid (GwInv G x y)) (fun s t => (intOf s + intOf t).toNat)
  case atStart => exact ⟨p, y, rfl, rfl, by omega, hy, HINV⟩
  case round =>
    obtain ⟨a, b, rfl, rfl, ha, hb, hinv⟩ := hrel
    by_cases hb0 : b = 0
    · subst hb0
      have hfin := hinv.out.done
      subst hfin
      go_wp2
      go_ret
      exact ⟨ret_int (by rw [HRES.out]; exact HS.out), rfl⟩
    · have hbne : ((b : Int) != 0) = true := by rw [bne_iff_ne]; omega
      have hodd := hinv.out.odd
      have hkl : tz b < 64 := by obtain ⟨_, _, h⟩ := tz_dec hb0 hb; exact h
      have T3 := Lib.hid (tz64_c b hb hb0 w HT.out)
      obtain ⟨q, hq⟩ : ∃ q, odp b = q := ⟨_, rfl⟩
      have hql : q ≤ b := by rw [← hq]; exact odp_le b
      have hqo : q % 2 = 1 := by rw [← hq]; exact (odp_odd hb0 hb).1
      have hsb : (b : Int) / 2 ^ tz b = (q : Nat) := by
        rw [← hq]
        unfold odp
        push_cast
        rfl
      obtain ⟨K3, hK3⟩ : ∃ K3, tz b = K3 := ⟨_, rfl⟩
      rw [hK3] at T3 hsb hkl
      by_cases hgt : q < a
      · have hst := Lib.hid (hinv.out.step_gt hb0 hb (by rw [hq]; exact hgt))
        rw [hq] at hst
        have hdec : decide (q < a) = true := by simpa using hgt
        have HHo := Lib.hid hodd
        have HHq := Lib.hid hqo
        clear hq hK3 hodd hqo
        go_wp2_with (go_at_call 78; ((with_reducible refine T3.out.mono ?_); rintro e w' ⟨rfl, rfl⟩))
        clear hsb
        go_round
        case rel => exact ⟨q, a - q, rfl, by go_num, by omega, by omega, hst⟩
        case measure => have := HHq.out; have := HHo.out; simp [intOf]; omega
      · have hst := Lib.hid (hinv.out.step_le hb0 hb (by rw [hq]; omega))
        rw [hq] at hst
        have hdec : decide (q < a) = false := by simpa using hgt
        have HHo := Lib.hid hodd
        have HHq := Lib.hid hqo
        clear hq hK3 hodd hqo
        go_wp2_with (go_at_call 78; ((with_reducible refine T3.out.mono ?_); rintro e w' ⟨rfl, rfl⟩))
        clear hsb
        go_round
        case rel => exact ⟨a, q - a, rfl, by go_num, by omega, by omega, hst⟩
        case measure => have := HHq.out; have := HHo.out; simp [intOf]; omega
theorem gcdWord_c (x y : Nat) (w : World) (hx : x < 18446744073709551616) (hy : y < 18446744073709551616) (hT : Tab w) :
    Calls Tryd.prog 62 #[.int .u64 x, .int .u64 y] w fun e w' => e = .returned (.int .u64 (Nat.gcd x y : Nat)) ∧ w = w' := by
  by_cases h0 : x = 0 ∨ y = 0
  · exact gcdWord_zero x y w hx hy h0
  · exact gcdWord_pos x y w hx hy (by omega) (by omega) hT

/-- whatever was there is as it was -/
def Keep (w w' : World) : Prop := Below w.heap.size w w'
theorem Keep.refl (w : World) : Keep w w := Below.refl _ _
theorem Keep.trans {a b c : World} (h : Keep a b) (k : Keep b c) : Keep a c := Below.trans h (k.mono h.size)
theorem Keep.alloc {a b : World} (h : Keep a b) (o : Obj) : Keep a (b.alloc o) := Below.alloc h h.size o
theorem Dr.keep {a b : World} (h : Dr a b) : Keep a b := h.below (Below.refl _ _)
theorem Keep.drewN {a b : World} (h : Keep a b) (n : Nat) : Keep a (b.drewN n) := below_dN h n
theorem Tab.keep {w w' : World} (h : Tab w) (k : Keep w w') : Tab w' := h.below k
/-- a value that reads as limbs -/
def Lm (w : World) (v : Value) (l : List Nat) : Prop := ∃ a len cap, v = .slice a len cap ∧ Rd w a len cap l
theorem Lm.keep {w w' : World} {v : Value} {l : List Nat} (h : Lm w v l) (k : Keep w w') : Lm w' v l := by
  obtain ⟨a, len, cap, rfl, hr⟩ := h
  exact ⟨a, len, cap, rfl, hr.below k⟩
theorem Lm.lim {w : World} {v : Value} {l : List Nat} (h : Lm w v l) : Lim l := by obtain ⟨a, len, cap, rfl, hr⟩ := h; exact hr.lim
/-- a value that reads as the canonical limbs of n -/
def Cn (w : World) (v : Value) (n : Nat) : Prop := Lm w v (dig n)
theorem Cn.keep {w w' : World} {v : Value} {n : Nat} (h : Cn w v n) (k : Keep w w') : Cn w' v n := Lm.keep h k
/-- a value that reads as n, in at most k limbs -/
def Nm (w : World) (v : Value) (n k : Nat) : Prop := ∃ l, Lm w v l ∧ nv l = n ∧ l.length ≤ k
theorem Nm.keep {w w' : World} {v : Value} {n k : Nat} (h : Nm w v n k) (hk : Keep w w') : Nm w' v n k := by
  obtain ⟨l, h1, h2, h3⟩ := h
  exact ⟨l, h1.keep hk, h2, h3⟩
theorem Cn.nm {w : World} {v : Value} {n k : Nat} (h : Cn w v n) (hk : n < BB ^ k) : Nm w v n k := ⟨_, h, nv_dig _, dig_len_of hk⟩
theorem Nm.lt {w : World} {v : Value} {n k : Nat} (h : Nm w v n k) : n < BB ^ k := by
  obtain ⟨l, h1, rfl, h3⟩ := h
  exact Nat.lt_of_lt_of_le (nv_lt h1.lim) (Nat.pow_le_pow_right BB_pos h3)
theorem Nm.up {w : World} {v : Value} {n k j : Nat} (h : Nm w v n k) (hj : k ≤ j) : Nm w v n j := by
  obtain ⟨l, h1, h2, h3⟩ := h
  exact ⟨l, h1, h2, Nat.le_trans h3 hj⟩
theorem Lm.nm {w : World} {v : Value} {l : List Nat} {k : Nat} (h : Lm w v l) (hk : l.length ≤ k) : Nm w v (nv l) k := ⟨l, h, rfl, hk⟩
theorem NPost.cn {n : Nat} {w : World} {e : Ending} {w' : World} (h : NPost n w e w') : ∃ u, e = .returned u ∧ Cn w' u n ∧ Keep w w' := by
  obtain ⟨a, cap, rfl, hr, hb⟩ := h
  exact ⟨_, rfl, ⟨_, _, _, rfl, hr⟩, hb⟩
theorem NEPost.cn {n : Nat} {err : Int} {w : World} {e : Ending} {w' : World} (h : NEPost n err w e w') : ∃ u, e = .returned (.tuple #[u, .int .i64 err]) ∧ Cn w' u n ∧ Keep w w' := by
  obtain ⟨a, cap, rfl, hr, hb⟩ := h
  exact ⟨_, rfl, ⟨_, _, _, rfl, hr⟩, hb⟩
theorem make_n {w : World} {v : Value} {n k : Nat} (h : Nm w v n k) (hk : k ≤ 1048576) :
    Calls Tryd.prog 64 #[v] w fun e w' => ∃ u, e = .returned u ∧ Cn w' u n ∧ Keep w w' := by
  obtain ⟨l, ⟨a, len, cap, rfl, hr⟩, rfl, hl⟩ := h
  exact (make_c _ _ _ _ w hr (by rw [← hr.len_eq]; omega)).mono fun _ _ h => h.cn
theorem rmake_n {w : World} {v : Value} {n k : Nat} (h : Nm w v n k) (hk : k ≤ 1048576) :
    Calls Tryd.prog 73 #[v] w fun e w' => ∃ u, e = .returned u ∧ Cn w' u n ∧ Keep w w' := by
  obtain ⟨l, ⟨a, len, cap, rfl, hr⟩, rfl, hl⟩ := h
  exact (rmake_c _ _ _ _ w hr (by rw [← hr.len_eq]; omega)).mono fun _ _ h => h.cn
theorem same_n {w : World} {v u : Value} {l t : List Nat} (h : Lm w v l) (h' : Lm w u t) :
    Calls Tryd.prog 61 #[v, u] w fun e w' => e = .returned (.bool (eqB l t)) ∧ Keep w w' := by
  obtain ⟨a, len, cap, rfl, hr⟩ := h
  obtain ⟨a', len', cap', rfl, hr'⟩ := h'
  exact (same_c _ _ _ _ _ _ _ _ w hr hr').mono fun _ _ ⟨h1, h2⟩ => ⟨h1, Dr.keep h2⟩
theorem same_t {w : World} {v u : Value} {n m : Nat} (h : Cn w v n) (h' : Cn w u m) (e : n = m) :
    Calls Tryd.prog 61 #[v, u] w fun e w' => e = .returned (.bool true) ∧ Keep w w' := by
  subst e
  have := same_n h h'
  rwa [eqB_dig, beq_self_eq_true] at this
theorem uint_n {w : World} {v : Value} {n k : Nat} (h : Nm w v n k) :
    Calls Tryd.prog 24 #[v] w fun e w' => e = .returned (.tuple #[.int .u64 (uintV n : Nat), .bool (uintB n)]) ∧ Keep w w' := by
  obtain ⟨l, ⟨a, len, cap, rfl, hr⟩, rfl, hl⟩ := h
  exact (uint_c _ _ _ _ w hr).mono fun _ _ ⟨h1, h2⟩ => ⟨h1, Dr.keep h2⟩
theorem ruint_n {w : World} {v : Value} {n k : Nat} (h : Nm w v n k) (hk : k ≤ 1048576) :
    Calls Tryd.prog 91 #[v] w fun e w' => e = .returned (.tuple #[.int .u64 (uintV n : Nat), .bool (uintB n)]) ∧ Keep w w' := by
  obtain ⟨l, ⟨a, len, cap, rfl, hr⟩, rfl, hl⟩ := h
  exact (ruint_c _ _ _ _ w hr (by rw [← hr.len_eq]; omega)).mono fun _ _ ⟨h1, h2⟩ => ⟨h1, h2⟩
theorem bits_n {w : World} {v : Value} {n k : Nat} (h : Nm w v n k) (hk : k ≤ 1048576) :
    Calls Tryd.prog 66 #[v] w fun e w' => e = .returned (.int .i64 (bl n : Nat)) ∧ Keep w w' := by
  obtain ⟨l, ⟨a, len, cap, rfl, hr⟩, rfl, hl⟩ := h
  exact (bits_c _ _ _ _ w hr (by rw [← hr.len_eq]; omega)).mono fun _ _ ⟨h1, h2⟩ => ⟨h1, h2 ▸ Keep.refl _⟩
theorem rbits_n {w : World} {v : Value} {n k : Nat} (h : Nm w v n k) (hk : k ≤ 1048576) :
    Calls Tryd.prog 92 #[v] w fun e w' => e = .returned (.int .i64 (bl n : Nat)) ∧ Keep w w' := by
  obtain ⟨l, ⟨a, len, cap, rfl, hr⟩, rfl, hl⟩ := h
  exact (rbits_c _ _ _ _ w hr (by rw [← hr.len_eq]; omega)).mono fun _ _ ⟨h1, h2⟩ => ⟨h1, h2⟩
theorem of_n {w : World} (n : Nat) (hn : n < 18446744073709551616) :
    Calls Tryd.prog 53 #[.int .u64 n] w fun e w' => ∃ u, e = .returned u ∧ Cn w' u n ∧ Keep w w' := (of_c n hn w).mono fun _ _ h => h.cn
theorem rof_n {w : World} (n : Nat) (hn : n < 18446744073709551616) :
    Calls Tryd.prog 60 #[.int .u64 n] w fun e w' => ∃ u, e = .returned u ∧ Cn w' u n ∧ Keep w w' := (rof_c n hn w).mono fun _ _ h => h.cn
theorem cmp_n {w : World} {v u : Value} {n m k j : Nat} (h : Nm w v n k) (h' : Nm w u m j) :
    Calls Tryd.prog 50 #[v, u] w fun e w' => e = .returned (.int .i64 (cmpv n m)) ∧ Keep w w' := by
  obtain ⟨l, ⟨a, len, cap, rfl, hr⟩, rfl, hl⟩ := h
  obtain ⟨l', ⟨a', len', cap', rfl, hr'⟩, rfl, hl'⟩ := h'
  exact (cmp_c _ _ _ _ _ _ _ _ w hr hr').mono fun _ _ ⟨h1, h2⟩ => ⟨h1, Dr.keep h2⟩
theorem rcmp_n {w : World} {v u : Value} {n m k j : Nat} (h : Nm w v n k) (h' : Nm w u m j) :
    Calls Tryd.prog 90 #[v, u] w fun e w' => e = .returned (.int .i64 (cmpv n m)) ∧ Keep w w' := by
  obtain ⟨l, ⟨a, len, cap, rfl, hr⟩, rfl, hl⟩ := h
  obtain ⟨l', ⟨a', len', cap', rfl, hr'⟩, rfl, hl'⟩ := h'
  exact (rcmp_c _ _ _ _ _ _ _ _ w hr hr').mono fun _ _ ⟨h1, h2⟩ => ⟨h1, h2 ▸ Keep.refl _⟩
theorem add_n {w : World} {v u : Value} {n m k j : Nat} (h : Nm w v n k) (h' : Nm w u m j) (hk : k ≤ 1048575) (hj : j ≤ 1048575) :
    Calls Tryd.prog 69 #[v, u] w fun e w' => ∃ x, e = .returned x ∧ Cn w' x (n + m) ∧ Keep w w' := by
  obtain ⟨l, ⟨a, len, cap, rfl, hr⟩, rfl, hl⟩ := h
  obtain ⟨l', ⟨a', len', cap', rfl, hr'⟩, rfl, hl'⟩ := h'
  exact (add_c _ _ _ _ _ _ _ _ w hr hr' (by rw [← hr.len_eq]; omega) (by rw [← hr'.len_eq]; omega)).mono fun _ _ h => h.cn
theorem radd_n {w : World} {v u : Value} {n m k j : Nat} (h : Nm w v n k) (h' : Nm w u m j) (hk : k ≤ 1048575) (hj : j ≤ 1048575) :
    Calls Tryd.prog 74 #[v, u] w fun e w' => ∃ x, e = .returned x ∧ Cn w' x (n + m) ∧ Keep w w' := by
  obtain ⟨l, ⟨a, len, cap, rfl, hr⟩, rfl, hl⟩ := h
  obtain ⟨l', ⟨a', len', cap', rfl, hr'⟩, rfl, hl'⟩ := h'
  exact (radd_c _ _ _ _ _ _ _ _ w hr hr' (by rw [← hr.len_eq]; omega) (by rw [← hr'.len_eq]; omega)).mono fun _ _ h => h.cn
theorem sub_n {w : World} {v u : Value} {n m k j : Nat} (h : Nm w v n k) (h' : Nm w u m j) (hk : k ≤ 1048575) (hj : j ≤ 1048575) :
    Calls Tryd.prog 70 #[v, u] w fun e w' => ∃ x, e = .returned (.tuple #[x, .int .i64 (subE n m)]) ∧ Cn w' x (n - m) ∧ Keep w w' := by
  obtain ⟨l, ⟨a, len, cap, rfl, hr⟩, rfl, hl⟩ := h
  obtain ⟨l', ⟨a', len', cap', rfl, hr'⟩, rfl, hl'⟩ := h'
  exact (sub_c _ _ _ _ _ _ _ _ w hr hr' (by rw [← hr.len_eq]; omega) (by rw [← hr'.len_eq]; omega)).mono fun _ _ h => h.cn
theorem rsub_n {w : World} {v u : Value} {n m k j : Nat} (h : Nm w v n k) (h' : Nm w u m j) (hk : k ≤ 1048575) (hj : j ≤ 1048575) :
    Calls Tryd.prog 75 #[v, u] w fun e w' => ∃ x, e = .returned (.tuple #[x, .int .i64 (subE n m)]) ∧ Cn w' x (n - m) ∧ Keep w w' := by
  obtain ⟨l, ⟨a, len, cap, rfl, hr⟩, rfl, hl⟩ := h
  obtain ⟨l', ⟨a', len', cap', rfl, hr'⟩, rfl, hl'⟩ := h'
  exact (rsub_c _ _ _ _ _ _ _ _ w hr hr' (by rw [← hr.len_eq]; omega) (by rw [← hr'.len_eq]; omega)).mono fun _ _ h => h.cn
theorem shl_n {w : World} {v : Value} {n k : Nat} (i : Int) (h : Nm w v n k) (hk : k ≤ 1048575) :
    Calls Tryd.prog 46 #[v, .int .i64 i] w fun e w' => ∃ x, e = .returned (.tuple #[x, .int .i64 (shE i)]) ∧ Cn w' x (shlN n i) ∧ Keep w w' := by
  obtain ⟨l, ⟨a, len, cap, rfl, hr⟩, rfl, hl⟩ := h
  exact (shl_c _ _ _ _ i w hr (by rw [← hr.len_eq]; omega)).mono fun _ _ h => h.cn
theorem shr_n {w : World} {v : Value} {n k : Nat} (i : Int) (h : Nm w v n k) (hk : k ≤ 1048575) :
    Calls Tryd.prog 98 #[v, .int .i64 i] w fun e w' => ∃ x, e = .returned (.tuple #[x, .int .i64 (shE i)]) ∧ Cn w' x (shrN n i) ∧ Keep w w' := by
  obtain ⟨l, ⟨a, len, cap, rfl, hr⟩, rfl, hl⟩ := h
  exact (shr_c _ _ _ _ i w hr (by rw [← hr.len_eq]; omega)).mono fun _ _ h => h.cn
theorem divMod_n {w : World} {v u : Value} {n m k j : Nat} (h : Nm w v n k) (h' : Nm w u m j) (hk : k ≤ 1048575) :
    Calls Tryd.prog 67 #[v, u] w fun e w' => ∃ x y, e = .returned (.tuple #[x, y, .int .i64 (dmE m)]) ∧ Cn w' x (n / m) ∧ Cn w' y (dmR n m) ∧ Keep w w' := by
  obtain ⟨l, ⟨a, len, cap, rfl, hr⟩, rfl, hl⟩ := h
  obtain ⟨l', ⟨a', len', cap', rfl, hr'⟩, rfl, hl'⟩ := h'
  refine (divMod_c _ _ _ _ _ _ _ _ w hr hr' (by rw [← hr.len_eq]; omega)).mono ?_
  rintro e w' ⟨a, c, a2, c2, rfl, h1, h2, h3⟩
  exact ⟨_, _, rfl, ⟨_, _, _, rfl, h1⟩, ⟨_, _, _, rfl, h2⟩, h3⟩
end Go.Proofs.YtnalmjbgkedcoaaDoor
