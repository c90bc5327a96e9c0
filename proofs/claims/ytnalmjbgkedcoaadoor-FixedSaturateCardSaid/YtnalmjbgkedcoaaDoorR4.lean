/- Carried over from another seat by program (portn.py). -/
import Derived.Test.YtnalmjbgkedcoaaDoorR3
import Derived.Test.YtnalmjbgkedcoaaDoorNg
namespace Go.Proofs.YtnalmjbgkedcoaaDoor
open Go.RowKit
set_option linter.unusedVariables false
theorem rv_red (s : Bool) (n : Nat) {d : Nat} (h : d ≠ 0) : rv s (n / Nat.gcd n d) (d / Nat.gcd n d) = rv s n d ∧ Nat.gcd (n / Nat.gcd n d) (dn (d / Nat.gcd n d)) = 1 ∧ d / Nat.gcd n d ≠ 0 := by
  have hg : 0 < Nat.gcd n d := Nat.gcd_pos_of_pos_right _ (Nat.pos_of_ne_zero h)
  have hd : d / Nat.gcd n d ≠ 0 := by
    have := Nat.div_pos (Nat.le_of_dvd (Nat.pos_of_ne_zero h) (Nat.gcd_dvd_right n d)) hg
    omega
  refine ⟨?_, ?_, hd⟩
  · unfold rv
    rw [dn_of hd, dn_of h]
    obtain ⟨g, hge⟩ : ∃ g, Nat.gcd n d = g := ⟨_, rfl⟩
    rw [hge] at hg ⊢
    have e1 : n / g * g = n := Nat.div_mul_cancel (hge ▸ Nat.gcd_dvd_left n d)
    have e2 : d / g * g = d := Nat.div_mul_cancel (hge ▸ Nat.gcd_dvd_right n d)
    rw [← Rat.mkRat_mul_right (a := g) (by omega), e2, ← iv_mulR, e1]
  · rw [dn_of hd]
    exact Nat.gcd_div_gcd_div_gcd_of_pos_right (Nat.pos_of_ne_zero h)
set_option maxHeartbeats 800000 in
theorem reduceWords_c {w : World} (s : Bool) (n d : Nat) (hn : n < 18446744073709551616) (hd : d < 18446744073709551616) (h0 : d ≠ 0) (hT : Tab w) : Calls Tryd.prog 42 #[.bool s, .int .u64 n, .int .u64 d] w (RPost (rv s n d) w) := by
  have K1 : Keep w (w.alloc (.cells #[.bool false, .slice none 0 0, .slice none 0 0] 25)) := (Keep.refl w).alloc _
  have B1 := QBox.new w false none 0 0 none 0 0
  by_cases h1 : d = 1
  · subst h1
    have OF := Lib.hid (fun w1 => of_n (w := w1) n hn)
    have OF1 := Lib.hid (fun w1 => of_n (w := w1) 1 (by omega))
    have PK := Lib.hid (fun w1 x y (hx : Cn w1 x n) (hy : Cn w1 y 1) => pack_c s hx hy (by rw [dn_of (by decide)]; exact Nat.gcd_one_right n))
    obtain ⟨q, hq⟩ : ∃ q, rv s n 1 = q := ⟨_, rfl⟩
    rw [hq] at PK ⊢
    clear hT hq
    go_enter Tryd.func42, Tryd.ntmps42
    go_wp2_with fail
    refine Calls.mono (OF.out _) ?_
    rintro e w2 ⟨x, rfl, hx, k2⟩
    have HX := Lib.hid hx
    have B2 := B1.keep k2
    have K2 := K1.trans k2
    clear hx k2 K1 B1
    go_wp2_with fail
    refine Calls.mono (OF1.out _) ?_
    rintro e w3 ⟨y, rfl, hy, k3⟩
    have HX3 := Lib.hid (HX.out.keep k3)
    have HY := Lib.hid hy
    have B3 := B2.keep k3
    have K3 := K2.trans k3
    clear hy k3 K2 B2
    go_wp2_with fail
    refine Calls.mono (PK.out _ _ _ HX3.out HY.out) ?_
    rintro e w4 ⟨u, rfl, hu, k4⟩
    obtain ⟨b0, a0, n0, c0, a1, n1, c1, rfl, hcr, hkk, f0, f1, f2, g0, g1, g2, s0, s1, s2⟩ := hu.put (B3.keep k4) (K3.trans k4) (Nat.le_refl _)
    have FIN := Lib.hid (show RPost q w (.returned (.agg #[.bool b0, .slice a0 n0 c0, .slice a1 n1 c1])) _ from ⟨_, rfl, hcr, hkk⟩)
    clear hcr hkk hu k4 B3 K3
    go_wp2
    refine bodyPost_ret (v := .agg #[.bool b0, .slice a0 n0 c0, .slice a1 n1 c1]) (by simp [results, Tryd.results42, go_sem, s0, s1, s2]) rfl ?_
    exact FIN.out
  · have hg0 : Nat.gcd n d ≠ 0 := by have := Nat.gcd_pos_of_pos_right n (Nat.pos_of_ne_zero h0); omega
    have GW := Lib.hid (fun w1 (hT1 : Tab w1) => gcdWord_c n d w1 hn hd hT1)
    obtain ⟨r1, r2, r3⟩ := rv_red s n h0
    obtain ⟨g, hg⟩ : ∃ g, Nat.gcd n d = g := ⟨_, rfl⟩
    rw [hg] at GW r1 r2 hg0 r3
    have e1 : ((n : Int) / g) = (n / g : Nat) := by push_cast; rfl
    have e2 : ((d : Int) / g) = (d / g : Nat) := by push_cast; rfl
    obtain ⟨N, hN⟩ : ∃ N, n / g = N := ⟨_, rfl⟩
    obtain ⟨D, hD⟩ : ∃ D, d / g = D := ⟨_, rfl⟩
    have hNl : N < 18446744073709551616 := by rw [← hN]; exact Nat.lt_of_le_of_lt (Nat.div_le_self _ _) hn
    have hDl : D < 18446744073709551616 := by rw [← hD]; exact Nat.lt_of_le_of_lt (Nat.div_le_self _ _) hd
    rw [hN, hD] at r1 r2
    rw [hN] at e1
    rw [hD] at e2
    have OF := Lib.hid (fun w1 => of_n (w := w1) N hNl)
    have OF1 := Lib.hid (fun w1 => of_n (w := w1) D hDl)
    have PK := Lib.hid (fun w1 x y (hx : Cn w1 x N) (hy : Cn w1 y D) => pack_c s hx hy r2)
    rw [r1] at PK
    obtain ⟨q, hq⟩ : ∃ q, rv s n d = q := ⟨_, rfl⟩
    rw [hq] at PK ⊢
    have hgz : ((g : Int) == 0) = false := by simp; omega
    have hgl : g < 18446744073709551616 := by rw [← hg]; exact Nat.lt_of_le_of_lt (Nat.gcd_le_right n (Nat.pos_of_ne_zero h0)) hd
    have hd1 : ((d : Int) != 1) = true := by simp; omega
    have E1 := Lib.hid e1
    have E2 := Lib.hid e2
    have HT := Lib.hid (hT.keep K1)
    have w1e : IntKind.u64.wrap ((n : Int) / g) = (N : Nat) := by rw [e1]; exact wr64 hNl
    have w2e : IntKind.u64.wrap ((d : Int) / g) = (D : Nat) := by rw [e2]; exact wr64 hDl
    clear hT hq hg r1 r2 r3 hN hD e1 e2
    go_enter Tryd.func42, Tryd.ntmps42
    go_wp2_with fail
    refine Calls.mono (GW.out _ HT.out) ?_
    rintro e w1 ⟨rfl, rfl⟩
    go_wp2_with fail
    go_quiet (fail)
    go_wp2_with fail
    refine Calls.mono (OF.out _) ?_
    rintro e w2 ⟨x, rfl, hx, k2⟩
    have HX := Lib.hid hx
    have B2 := (B1.keep (Keep.drewN (Keep.refl _) _)).keep k2
    have K2 := (K1.trans (Keep.drewN (Keep.refl _) _)).trans k2
    clear hx k2 K1 B1
    go_wp2_with fail
    refine Calls.mono (OF1.out _) ?_
    rintro e w3 ⟨y, rfl, hy, k3⟩
    have HX3 := Lib.hid (HX.out.keep k3)
    have HY := Lib.hid hy
    have B3 := B2.keep k3
    have K3 := K2.trans k3
    clear hy k3 K2 B2
    clear w1e w2e
    go_wp2_with fail
    refine Calls.mono (PK.out _ _ _ HX3.out HY.out) ?_
    rintro e w4 ⟨u, rfl, hu, k4⟩
    obtain ⟨b0, a0, n0, c0, a1, n1, c1, rfl, hcr, hkk, f0, f1, f2, g0, g1, g2, s0, s1, s2⟩ := hu.put (B3.keep k4) (K3.trans k4) (Nat.le_refl _)
    have FIN := Lib.hid (show RPost q w (.returned (.agg #[.bool b0, .slice a0 n0 c0, .slice a1 n1 c1])) _ from ⟨_, rfl, hcr, hkk⟩)
    clear hcr hkk hu k4 B3 K3
    go_wp2
    refine bodyPost_ret (v := .agg #[.bool b0, .slice a0 n0 c0, .slice a1 n1 c1]) (by simp [results, Tryd.results42, go_sem, s0, s1, s2]) rfl ?_
    exact FIN.out
end Go.Proofs.YtnalmjbgkedcoaaDoor
