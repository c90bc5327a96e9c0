/- Walks of layer 1: Gcd of numbers of two limbs. -/
import Derived.Test.YtgoiechhhnhgaaaDoorG1
namespace Go.Proofs.YtgoiechhhnhgaaaDoor
open Go.RowKit
set_option linter.unusedVariables false
theorem two_limbs {n : Nat} (h : (dig n).length ≤ 2) : n < 18446744073709551616 := by
  have h1 := nv_lt (dig_lim n)
  rw [nv_dig] at h1
  have h2 : BB ^ (dig n).length ≤ BB ^ 2 := Nat.pow_le_pow_right BB_pos h
  have h3 : BB ^ 2 = 18446744073709551616 := by decide
  omega
set_option maxHeartbeats 800000 in
theorem gcd_small (a a' : Option Addr) (len cap len' cap' : Nat) (l t : List Nat) (w : World) (h : Rd w a len cap l) (h' : Rd w a' len' cap' t) (hs : (dig (nv l)).length ≤ 2) (hs' : (dig (nv t)).length ≤ 2) (hT : Tab w) :
    Calls Tryd.prog 39 #[.slice a len cap, .slice a' len' cap'] w (NPost (Nat.gcd (nv l) (nv t)) w) := by
  have H := Lib.hid h
  have H' := Lib.hid h'
  have HT := Lib.hid hT
  clear hT
  have bl := two_limbs hs
  have bt := two_limbs hs'
  obtain ⟨x, n, hx⟩ := Tm.mk' l
  obtain ⟨y, m, hy⟩ := Tm.mk' t
  have HX := Lib.hid hx.lend
  have HY := Lib.hid hy.lend
  have HRX := Lib.hid (hx.rd h)
  have HRY := Lib.hid (hy.rd h')
  have hn : n ≤ 2 := by rw [← hx.lend]; exact hs
  have hm : m ≤ 2 := by rw [← hy.lend]; exact hs'
  by_cases hlt : n < m
  · have U1 := Lib.hid (uint_c _ _ _ _ w HRY.out)
    rw [hy.val, show uintV (nv t) = nv t from if_pos bt] at U1
    have U2 := fun w1 (hr : Rd w1 a n cap x) => uint_c _ _ _ _ w1 hr
    rw [hx.val, show uintV (nv l) = nv l from if_pos bl] at U2
    have KU2 := Lib.hid U2
    have G := Lib.hid (fun w1 (ht : Tab w1) => gcdWord_c (nv t) (nv l) w1 bt bl ht)
    obtain ⟨g, hg⟩ : ∃ g, Nat.gcd (nv t) (nv l) = g := ⟨_, rfl⟩
    have hgl : g < 18446744073709551616 := by
      rw [← hg]
      rcases Nat.eq_zero_or_pos (nv t) with e | e
      · rw [e, Nat.gcd_zero_left]; exact bl
      · exact Nat.lt_of_le_of_lt (Nat.gcd_le_left _ e) bt
    rw [hg] at G
    have OG := Lib.hid (fun w1 => of_c g hgl w1)
    rw [show Nat.gcd (nv l) (nv t) = g from (Nat.gcd_comm _ _).trans hg]
    have HB := Lib.hid bt
    clear h h' hx hy U2 hg bl bt hs hs'
    have hn2 : m ≤ 2 := hm
    go_enter Tryd.func39, Tryd.ntmps39
    go_wp2_with fail
    refine (trim_c _ _ _ l _ H.out).mono ?_
    rw [HX.out]
    rintro e w' ⟨rfl, rfl⟩
    go_wp2_with fail
    refine (trim_c _ _ _ t _ H'.out).mono ?_
    rw [HY.out]
    rintro e w' ⟨rfl, rfl⟩
    go_wp2_with fail
    refine U1.out.mono ?_
    rintro e w1 ⟨rfl, hdr⟩
    have HR1 := Lib.hid (hdr.rd HRX.out)
    have hb1 := hdr.below (Below.refl w.heap.size w)
    have HT1 := Lib.hid (HT.out.dr hdr)
    clear hdr
    go_wp2_with fail
    refine (KU2.out _ HR1.out).mono ?_
    rintro e w2 ⟨rfl, hdr⟩
    have hb2 := hdr.below hb1
    have HT2 := Lib.hid (HT1.out.dr hdr)
    clear hdr
    go_wp2_with fail
    refine (G.out _ HT2.out).mono ?_
    rintro e w3 ⟨rfl, rfl⟩
    go_wp2_with fail
    refine (OG.out _).mono ?_
    unfold NPost
    obtain ⟨lr, hlr⟩ : ∃ lr, (dig g).length = lr := ⟨_, rfl⟩
    have HLR := Lib.hid hlr
    rw [hlr]
    rintro e w4 ⟨ra, rc, rfl, hrr, hb4⟩
    have HRR := Lib.hid hrr
    have hb5 := hb2.trans (hb4.mono hb2.size)
    clear hrr hlr
    go_wp2_with fail
    go_ret
    unfold NPost
    rw [HLR.out]
    exact ⟨_, _, rfl, HRR.out, hb5⟩
  · have U1 := Lib.hid (uint_c _ _ _ _ w HRX.out)
    rw [hx.val, show uintV (nv l) = nv l from if_pos bl] at U1
    have U2 := fun w1 (hr : Rd w1 a' m cap' y) => uint_c _ _ _ _ w1 hr
    rw [hy.val, show uintV (nv t) = nv t from if_pos bt] at U2
    have KU2 := Lib.hid U2
    have G := Lib.hid (fun w1 (ht : Tab w1) => gcdWord_c (nv l) (nv t) w1 bl bt ht)
    obtain ⟨g, hg⟩ : ∃ g, Nat.gcd (nv l) (nv t) = g := ⟨_, rfl⟩
    have hgl : g < 18446744073709551616 := by
      rw [← hg]
      rcases Nat.eq_zero_or_pos (nv l) with e | e
      · rw [e, Nat.gcd_zero_left]; exact bt
      · exact Nat.lt_of_le_of_lt (Nat.gcd_le_left _ e) bl
    rw [hg] at G
    have OG := Lib.hid (fun w1 => of_c g hgl w1)
    rw [show Nat.gcd (nv l) (nv t) = g from hg]
    have HB := Lib.hid bl
    clear h h' hx hy U2 hg bl bt hs hs'
    have hn2 : n ≤ 2 := hn
    go_enter Tryd.func39, Tryd.ntmps39
    go_wp2_with fail
    refine (trim_c _ _ _ l _ H.out).mono ?_
    rw [HX.out]
    rintro e w' ⟨rfl, rfl⟩
    go_wp2_with fail
    refine (trim_c _ _ _ t _ H'.out).mono ?_
    rw [HY.out]
    rintro e w' ⟨rfl, rfl⟩
    go_wp2_with fail
    refine U1.out.mono ?_
    rintro e w1 ⟨rfl, hdr⟩
    have HR1 := Lib.hid (hdr.rd HRY.out)
    have hb1 := hdr.below (Below.refl w.heap.size w)
    have HT1 := Lib.hid (HT.out.dr hdr)
    clear hdr
    go_wp2_with fail
    refine (KU2.out _ HR1.out).mono ?_
    rintro e w2 ⟨rfl, hdr⟩
    have hb2 := hdr.below hb1
    have HT2 := Lib.hid (HT1.out.dr hdr)
    clear hdr
    go_wp2_with fail
    refine (G.out _ HT2.out).mono ?_
    rintro e w3 ⟨rfl, rfl⟩
    go_wp2_with fail
    refine (OG.out _).mono ?_
    unfold NPost
    obtain ⟨lr, hlr⟩ : ∃ lr, (dig g).length = lr := ⟨_, rfl⟩
    have HLR := Lib.hid hlr
    rw [hlr]
    rintro e w4 ⟨ra, rc, rfl, hrr, hb4⟩
    have HRR := Lib.hid hrr
    have hb5 := hb2.trans (hb4.mono hb2.size)
    clear hrr hlr
    go_wp2_with fail
    go_ret
    unfold NPost
    rw [HLR.out]
    exact ⟨_, _, rfl, HRR.out, hb5⟩
end Go.Proofs.YtgoiechhhnhgaaaDoor
