/- Carried over from another seat by program (portn.py). -/
import Derived.Test.YtnalmjbgkedcoaaDoorNh
import Derived.Test.YtnalmjbgkedcoaaDoorNe
import Derived.Deep.RegionHeld3
import Derived.Deep.LoopGhost
namespace Go.Proofs.YtnalmjbgkedcoaaDoor
open Go.RowKit
set_option linter.unusedVariables false
set_option linter.unusedSimpArgs false
theorem two_limbs {n : Nat} (h : (dig n).length ≤ 2) : n < 18446744073709551616 := by
  have h1 := nv_lt (dig_lim n)
  rw [nv_dig] at h1
  have h2 : BB ^ (dig n).length ≤ BB ^ 2 := Nat.pow_le_pow_right BB_pos h
  have h3 : BB ^ 2 = 18446744073709551616 := by decide
  omega
set_option maxHeartbeats 800000 in
theorem gcd_small (a a' : Option Addr) (len cap len' cap' : Nat) (l t : List Nat) (w : World) (h : Rd w a len cap l) (h' : Rd w a' len' cap' t) (hs : (dig (nv l)).length ≤ 2) (hs' : (dig (nv t)).length ≤ 2) (hT : Tab w) :
    Calls Tryd.prog 65 #[.slice a len cap, .slice a' len' cap'] w (NPost (Nat.gcd (nv l) (nv t)) w) := by
  have H := Lib.hid h
  have H' := Lib.hid h'
  have HT := Lib.hid hT
  clear hT
  have bl := two_limbs hs
  have bt := two_limbs hs'
  obtain ⟨x, n, hx⟩ := Tm.mk' l
  obtain ⟨y, m, hy⟩ := Tm.mk' t
  have HX := Lib.hid hx.lend
  have HY := Lib.hid hy.lend
  have HRX := Lib.hid (hx.rd h)
  have HRY := Lib.hid (hy.rd h')
  have hn : n ≤ 2 := by rw [← hx.lend]; exact hs
  have hm : m ≤ 2 := by rw [← hy.lend]; exact hs'
  by_cases hlt : n < m
  · have U1 := Lib.hid (uint_c _ _ _ _ w HRY.out)
    rw [hy.val, show uintV (nv t) = nv t from if_pos bt] at U1
    have U2 := fun w1 (hr : Rd w1 a n cap x) => uint_c _ _ _ _ w1 hr
    rw [hx.val, show uintV (nv l) = nv l from if_pos bl] at U2
    have KU2 := Lib.hid U2
    have G := Lib.hid (fun w1 (ht : Tab w1) => gcdWord_c (nv t) (nv l) w1 bt bl ht)
    obtain ⟨g, hg⟩ : ∃ g, Nat.gcd (nv t) (nv l) = g := ⟨_, rfl⟩
    have hgl : g < 18446744073709551616 := by
      rw [← hg]
      rcases Nat.eq_zero_or_pos (nv t) with e | e
      · rw [e, Nat.gcd_zero_left]; exact bl
      · exact Nat.lt_of_le_of_lt (Nat.gcd_le_left _ e) bt
    rw [hg] at G
    have OG := Lib.hid (fun w1 => of_c g hgl w1)
    rw [show Nat.gcd (nv l) (nv t) = g from (Nat.gcd_comm _ _).trans hg]
    have HB := Lib.hid bt
    clear h h' hx hy U2 hg bl bt hs hs'
    have hn2 : m ≤ 2 := hm
    go_enter Tryd.func65, Tryd.ntmps65
    go_wp2_with fail
    refine (trim_c _ _ _ l _ H.out).mono ?_
    rw [HX.out]
    rintro e w' ⟨rfl, rfl⟩
    go_wp2_with fail
    refine (trim_c _ _ _ t _ H'.out).mono ?_
    rw [HY.out]
    rintro e w' ⟨rfl, rfl⟩
    go_wp2_with fail
    refine U1.out.mono ?_
    rintro e w1 ⟨rfl, hdr⟩
    have HR1 := Lib.hid (hdr.rd HRX.out)
    have hb1 := hdr.below (Below.refl w.heap.size w)
    have HT1 := Lib.hid (HT.out.dr hdr)
    clear hdr
    go_wp2_with fail
    refine (KU2.out _ HR1.out).mono ?_
    rintro e w2 ⟨rfl, hdr⟩
    have hb2 := hdr.below hb1
    have HT2 := Lib.hid (HT1.out.dr hdr)
    clear hdr
    go_wp2_with fail
    refine (G.out _ HT2.out).mono ?_
    rintro e w3 ⟨rfl, rfl⟩
    go_wp2_with fail
    refine (OG.out _).mono ?_
    unfold NPost
    obtain ⟨lr, hlr⟩ : ∃ lr, (dig g).length = lr := ⟨_, rfl⟩
    have HLR := Lib.hid hlr
    rw [hlr]
    rintro e w4 ⟨ra, rc, rfl, hrr, hb4⟩
    have HRR := Lib.hid hrr
    have hb5 := hb2.trans (hb4.mono hb2.size)
    clear hrr hlr
    go_wp2_with fail
    go_ret
    unfold NPost
    rw [HLR.out]
    exact ⟨_, _, rfl, HRR.out, hb5⟩
  · have U1 := Lib.hid (uint_c _ _ _ _ w HRX.out)
    rw [hx.val, show uintV (nv l) = nv l from if_pos bl] at U1
    have U2 := fun w1 (hr : Rd w1 a' m cap' y) => uint_c _ _ _ _ w1 hr
    rw [hy.val, show uintV (nv t) = nv t from if_pos bt] at U2
    have KU2 := Lib.hid U2
    have G := Lib.hid (fun w1 (ht : Tab w1) => gcdWord_c (nv l) (nv t) w1 bl bt ht)
    obtain ⟨g, hg⟩ : ∃ g, Nat.gcd (nv l) (nv t) = g := ⟨_, rfl⟩
    have hgl : g < 18446744073709551616 := by
      rw [← hg]
      rcases Nat.eq_zero_or_pos (nv l) with e | e
      · rw [e, Nat.gcd_zero_left]; exact bt
      · exact Nat.lt_of_le_of_lt (Nat.gcd_le_left _ e) bl
    rw [hg] at G
    have OG := Lib.hid (fun w1 => of_c g hgl w1)
    rw [show Nat.gcd (nv l) (nv t) = g from hg]
    have HB := Lib.hid bl
    clear h h' hx hy U2 hg bl bt hs hs'
    have hn2 : n ≤ 2 := hn
    go_enter Tryd.func65, Tryd.ntmps65
    go_wp2_with fail
    refine (trim_c _ _ _ l _ H.out).mono ?_
    rw [HX.out]
    rintro e w' ⟨rfl, rfl⟩
    go_wp2_with fail
    refine (trim_c _ _ _ t _ H'.out).mono ?_
    rw [HY.out]
    rintro e w' ⟨rfl, rfl⟩
    go_wp2_with fail
    refine U1.out.mono ?_
    rintro e w1 ⟨rfl, hdr⟩
    have HR1 := Lib.hid (hdr.rd HRY.out)
    have hb1 := hdr.below (Below.refl w.heap.size w)
    have HT1 := Lib.hid (HT.out.dr hdr)
    clear hdr
    go_wp2_with fail
    refine (KU2.out _ HR1.out).mono ?_
    rintro e w2 ⟨rfl, hdr⟩
    have hb2 := hdr.below hb1
    have HT2 := Lib.hid (HT1.out.dr hdr)
    clear hdr
    go_wp2_with fail
    refine (G.out _ HT2.out).mono ?_
    rintro e w3 ⟨rfl, rfl⟩
    go_wp2_with fail
    refine (OG.out _).mono ?_
    unfold NPost
    obtain ⟨lr, hlr⟩ : ∃ lr, (dig g).length = lr := ⟨_, rfl⟩
    have HLR := Lib.hid hlr
    rw [hlr]
    rintro e w4 ⟨ra, rc, rfl, hrr, hb4⟩
    have HRR := Lib.hid hrr
    have hb5 := hb2.trans (hb4.mono hb2.size)
    clear hrr hlr
    go_wp2_with fail
    go_ret
    unfold NPost
    rw [HLR.out]
    exact ⟨_, _, rfl, HRR.out, hb5⟩

/-- the state of Lehmer's loop: x, y are combinations of the leading words X, Y -/
structure Lh (e X Y x y u1 u2 v1 v2 : Int) : Prop where
  sg : e = 1 ∨ e = -1
  hx : x = e * (u1 * X - v1 * Y)
  hy : y = -e * (u2 * X - v2 * Y)
  det : u1 * v2 - u2 * v1 = e
  n1 : 0 ≤ u1
  n2 : 0 ≤ u2
  m1 : 0 ≤ v1
  m2 : 1 ≤ v2
  le : u2 ≤ v2
  le1 : u1 ≤ v1 ∨ (u1 = 1 ∧ v1 = 0 ∧ u2 = 0)
theorem Lh.start (X Y : Int) : Lh 1 X Y X Y 1 0 0 1 := ⟨.inl rfl, by omega, by omega, by omega, by omega, by omega, by omega, by omega, by omega, .inr ⟨rfl, rfl, rfl⟩⟩
theorem Lh.step {e X Y x y u1 u2 v1 v2 q r : Int} (h : Lh e X Y x y u1 u2 v1 v2) (hq : x = q * y + r) (hq1 : 1 ≤ q) : Lh (-e) X Y y r u2 (u1 + q * u2) v2 (v1 + q * v2) := by
  obtain ⟨sg, hx, hy, det, n1, n2, m1, m2, le, le1⟩ := h
  have hq0 : 0 ≤ q := by omega
  have k1 : 0 ≤ q * u2 := Int.mul_nonneg hq0 n2
  have k2 : 0 ≤ q * v2 := Int.mul_nonneg hq0 (by omega)
  have k3 : q * u2 ≤ q * v2 := Int.mul_le_mul_of_nonneg_left le hq0
  refine ⟨by omega, hy, ?_, ?_, n2, by omega, by omega, ?_, ?_, .inl le⟩
  · have hr : r = x - q * y := by omega
    rw [hr, hx, hy]
    rcases sg with rfl | rfl
    · simp only [Int.add_mul, Int.mul_assoc, Int.mul_sub, Int.neg_mul, Int.one_mul, Int.mul_neg, Int.neg_neg]
      omega
    · simp only [Int.add_mul, Int.mul_assoc, Int.mul_sub, Int.neg_mul, Int.one_mul, Int.mul_neg, Int.neg_neg]
      omega
  · have e1 : u2 * (v1 + q * v2) = u2 * v1 + q * (u2 * v2) := by rw [Int.mul_add, Int.mul_left_comm]
    have e2 : (u1 + q * u2) * v2 = u1 * v2 + q * (u2 * v2) := by rw [Int.add_mul, Int.mul_assoc]
    rw [e1, e2]
    omega
  · have := Int.mul_le_mul_of_nonneg_right hq1 (show 0 ≤ v2 by omega)
    omega
  · have := Int.mul_le_mul_of_nonneg_right hq1 (show 0 ≤ v2 by omega)
    rcases le1 with h | ⟨h1, h2, h3⟩
    · omega
    · subst h3
      omega
theorem Lh.ix {e X Y x y u1 u2 v1 v2 : Int} (h : Lh e X Y x y u1 u2 v1 v2) : X = v2 * x + v1 * y := by
  obtain ⟨sg, hx, hy, det, -⟩ := h
  rw [hx, hy]
  have e1 : (u1 * v2 - u2 * v1) * X = e * X := by rw [det]
  rcases sg with rfl | rfl
  all_goals
    simp only [Int.mul_sub, Int.neg_mul, Int.one_mul, Int.mul_neg, Int.sub_mul] at e1 ⊢
    rw [show v2 * (u1 * X) = u1 * v2 * X from by rw [Int.mul_left_comm, Int.mul_assoc], show v1 * (u2 * X) = u2 * v1 * X from by rw [Int.mul_left_comm, Int.mul_assoc], Int.mul_left_comm v2 v1 Y]
    omega
/-- the numbers themselves: X, Y are their leading words -/
theorem Lh.true_pair {e X Y x y u1 u2 v1 v2 a b M α β A B : Int} (h : Lh e X Y x y u1 u2 v1 v2) (ha : a = M * X + α) (hb : b = M * Y + β) (hα : 0 ≤ α) (hα2 : α < M) (hβ : 0 ≤ β) (hβ2 : β < M)
    (c1 : v2 ≤ y) (c2 : v1 + v2 ≤ x - y) (hA : A = e * (u1 * a - v1 * b)) (hB : B = -e * (u2 * a - v2 * b)) : 0 < B ∧ B < A := by
  obtain ⟨sg, hx, hy, det, n1, n2, m1, m2, le, le1⟩ := h
  have M0 : 0 < M := by omega
  have p1 : M * v2 ≤ M * y := Int.mul_le_mul_of_nonneg_left c1 (by omega)
  have p2 : M * (v1 + v2) ≤ M * (x - y) := Int.mul_le_mul_of_nonneg_left c2 (by omega)
  rw [Int.mul_add, Int.mul_sub] at p2
  have q1 : u2 * α ≤ u2 * (M - 1) := Int.mul_le_mul_of_nonneg_left (by omega) n2
  have q2 : v2 * β ≤ v2 * (M - 1) := Int.mul_le_mul_of_nonneg_left (by omega) (by omega)
  have q3 : u1 * α ≤ u1 * (M - 1) := Int.mul_le_mul_of_nonneg_left (by omega) n1
  have q4 : v1 * β ≤ v1 * (M - 1) := Int.mul_le_mul_of_nonneg_left (by omega) m1
  have r1 : 0 ≤ u2 * α := Int.mul_nonneg n2 hα
  have r2 : 0 ≤ v2 * β := Int.mul_nonneg (by omega) hβ
  have r3 : 0 ≤ u1 * α := Int.mul_nonneg n1 hα
  have r4 : 0 ≤ v1 * β := Int.mul_nonneg m1 hβ
  have s1 : u2 * (M - 1) ≤ v2 * (M - 1) := Int.mul_le_mul_of_nonneg_right le (by omega)
  have t : ∀ z : Int, z * (M - 1) = M * z - z := fun z => by rw [Int.mul_sub, Int.mul_one, Int.mul_comm]
  rw [t] at q1 q2 q3 q4
  rw [t, t] at s1
  have ea : ∀ z : Int, z * a = M * (z * X) + z * α := fun z => by rw [ha, Int.mul_add, Int.mul_left_comm]
  have eb : ∀ z : Int, z * b = M * (z * Y) + z * β := fun z => by rw [hb, Int.mul_add, Int.mul_left_comm]
  rw [ea, eb] at hA hB
  rcases sg with rfl | rfl
  · have hMx : M * x = M * (u1 * X) - M * (v1 * Y) := by rw [hx, Int.one_mul, Int.mul_sub]
    have hMy : M * y = M * (v2 * Y) - M * (u2 * X) := by
      rw [hy, ← Int.mul_sub]
      congr 1
      omega
    omega
  · have hMx : M * x = M * (v1 * Y) - M * (u1 * X) := by
      rw [hx, ← Int.mul_sub]
      congr 1
      omega
    have hMy : M * y = M * (u2 * X) - M * (v2 * Y) := by
      rw [hy, ← Int.mul_sub]
      congr 1
      omega
    have l1 : u1 ≤ v1 := by
      rcases le1 with h | ⟨h1, h2, h3⟩
      · exact h
      · subst h1
        subst h2
        subst h3
        omega
    have s2 : u1 * (M - 1) ≤ v1 * (M - 1) := Int.mul_le_mul_of_nonneg_right l1 (by omega)
    rw [t, t] at s2
    omega
/-- what the returned factors give: P, Q have the divisors of a, b, and are smaller -/
structure Mx (a b u0 u1 v0 v1 : Nat) (even : Bool) (P Q : Nat) : Prop where
  ev : even = true → P + v0 * b = u0 * a ∧ Q + u1 * a = v1 * b
  od : even = false → P + u0 * a = v0 * b ∧ Q + v1 * b = u1 * a
  gcd : Nat.gcd P Q = Nat.gcd a b
  lt : Q < P
  le : P ≤ a
  less : v0 ≠ 0 → P + Q < a + b
theorem Mx.of {e a b A B u1 u2 v1 v2 : Int} (sg : e = 1 ∨ e = -1) (det : u1 * v2 - u2 * v1 = e) (hA : A = e * (u1 * a - v1 * b)) (hB : B = -e * (u2 * a - v2 * b)) (h0 : 0 < B) (hlt : B < A)
    {a' b' u1' u2' v1' v2' : Nat} (ea : a = a') (eb : b = b') (eu1 : u1 = u1') (eu2 : u2 = u2') (ev1 : v1 = v1') (ev2 : v2 = v2') (hu2 : v1' ≠ 0 → 1 ≤ u2') (hv2 : 1 ≤ v2') :
    Mx a' b' u1' u2' v1' v2' (decide (e = 1)) A.toNat B.toNat := by
  obtain ⟨P, rfl⟩ : ∃ P : Nat, A = P := ⟨A.toNat, by omega⟩
  obtain ⟨Q, rfl⟩ : ∃ Q : Nat, B = Q := ⟨B.toNat, by omega⟩
  subst ea; subst eb; subst eu1; subst eu2; subst ev1; subst ev2
  simp only [Int.toNat_natCast]
  -- the inverse: a = v2 P + v1 Q, b = u2 P + u1 Q
  have ia : (a' : Int) = v2' * P + v1' * Q := by
    rw [hA, hB]
    have e1 : ((u1' : Int) * v2' - u2' * v1') * a' = e * a' := by rw [det]
    rcases sg with rfl | rfl
    all_goals
      simp only [Int.mul_sub, Int.neg_mul, Int.one_mul, Int.mul_neg, Int.sub_mul] at e1 ⊢
      rw [show (v2' : Int) * (u1' * a') = u1' * v2' * a' from by rw [Int.mul_left_comm, Int.mul_assoc], show (v1' : Int) * (u2' * a') = u2' * v1' * a' from by rw [Int.mul_left_comm, Int.mul_assoc], Int.mul_left_comm (v2' : Int) v1' b']
      omega
  have ib : (b' : Int) = u2' * P + u1' * Q := by
    rw [hA, hB]
    have e1 : ((u1' : Int) * v2' - u2' * v1') * b' = e * b' := by rw [det]
    rcases sg with rfl | rfl
    all_goals
      simp only [Int.mul_sub, Int.neg_mul, Int.one_mul, Int.mul_neg, Int.sub_mul] at e1 ⊢
      rw [show (u2' : Int) * (v1' * b') = u2' * v1' * b' from by rw [Int.mul_assoc], show (u1' : Int) * (v2' * b') = u1' * v2' * b' from by rw [Int.mul_assoc], Int.mul_left_comm (u2' : Int) u1' a']
      omega
  have na : a' = v2' * P + v1' * Q := by exact_mod_cast ia
  have nb : b' = u2' * P + u1' * Q := by exact_mod_cast ib
  have hP : P ≤ v2' * P := Nat.le_mul_of_pos_left _ (by omega)
  refine ⟨?_, ?_, ?_, by omega, by omega, ?_⟩
  · intro he
    have he' : e = 1 := by simpa using he
    subst he'
    have a1 : ((P + v1' * b' : Nat) : Int) = ((u1' * a' : Nat) : Int) := by push_cast; omega
    have a2 : ((Q + u2' * a' : Nat) : Int) = ((v2' * b' : Nat) : Int) := by push_cast; omega
    exact ⟨by exact_mod_cast a1, by exact_mod_cast a2⟩
  · intro he
    have he' : e = -1 := by
      rcases sg with h | h
      · exfalso; subst h; simp at he
      · exact h
    subst he'
    have a1 : ((P + u1' * a' : Nat) : Int) = ((v1' * b' : Nat) : Int) := by push_cast; omega
    have a2 : ((Q + v2' * b' : Nat) : Int) = ((u2' * a' : Nat) : Int) := by push_cast; omega
    exact ⟨by exact_mod_cast a1, by exact_mod_cast a2⟩
  · apply Nat.dvd_antisymm
    · refine Nat.dvd_gcd ?_ ?_
      · rw [na]
        exact Nat.dvd_add (Nat.dvd_mul_left_of_dvd (Nat.gcd_dvd_left _ _) _) (Nat.dvd_mul_left_of_dvd (Nat.gcd_dvd_right _ _) _)
      · rw [nb]
        exact Nat.dvd_add (Nat.dvd_mul_left_of_dvd (Nat.gcd_dvd_left _ _) _) (Nat.dvd_mul_left_of_dvd (Nat.gcd_dvd_right _ _) _)
    · have d1 : ((Nat.gcd a' b' : Nat) : Int) ∣ a' := Int.natCast_dvd_natCast.2 (Nat.gcd_dvd_left _ _)
      have d2 : ((Nat.gcd a' b' : Nat) : Int) ∣ b' := Int.natCast_dvd_natCast.2 (Nat.gcd_dvd_right _ _)
      refine Nat.dvd_gcd (Int.natCast_dvd_natCast.1 ?_) (Int.natCast_dvd_natCast.1 ?_)
      · rw [hA]
        exact Int.dvd_mul_of_dvd_right (Int.dvd_sub (Int.dvd_mul_of_dvd_right d1) (Int.dvd_mul_of_dvd_right d2))
      · rw [hB]
        exact Int.dvd_mul_of_dvd_right (Int.dvd_sub (Int.dvd_mul_of_dvd_right d1) (Int.dvd_mul_of_dvd_right d2))
  · intro hv
    have h1 := hu2 hv
    have h2 : P ≤ u2' * P := Nat.le_mul_of_pos_left _ (by omega)
    omega

/-- u times x less v times y, up to limb i: carries p, m, borrow o -/
structure CbInv (x y L : List Nat) (u v i p m o : Nat) : Prop where
  val : nv (L.take i) + v * nv (y.take i) + BB ^ i * p = u * nv (x.take i) + BB ^ i * (m + o)
theorem CbInv.start (x y L : List Nat) (u v : Nat) : CbInv x y L u v 0 0 0 0 := ⟨by simp [nv]⟩
theorem CbInv.step {x y L : List Nat} {u v i p m o s t P M D O : Nat} (h : CbInv x y L u v i p m o) (hi : i < L.length) (hx : x.getD i 0 = s) (hy : y.getD i 0 = t) (hP : p + u * s = P) (hM : m + v * t = M)
    (ho : o < 2) (hD : sbD (P % BB) (M % BB) o = D) (hO : sbB (P % BB) (M % BB) o = O) : CbInv x y (L.set i D) u v (i + 1) (P / BB) (M / BB) O := by
  refine ⟨?_⟩
  have h1 := h.val
  have h2 := sb_eq (x := P % BB) (y := M % BB) (b := o) (Nat.mod_lt _ BB_pos) (Nat.mod_lt _ BB_pos) ho
  rw [hD, hO] at h2
  have h3 := Nat.div_add_mod P BB
  have h4 := Nat.div_add_mod M BB
  rw [nv_take_succ (L.set _ _), take_set, getD_set_same hi, nv_take_succ y, nv_take_succ x, hx, hy, Nat.pow_succ]
  obtain ⟨Q, hQ⟩ : ∃ Q, BB ^ i = Q := ⟨_, rfl⟩
  obtain ⟨pd, hpd⟩ : ∃ d, P / BB = d := ⟨_, rfl⟩
  obtain ⟨pm, hpm⟩ : ∃ d, P % BB = d := ⟨_, rfl⟩
  obtain ⟨md, hmd⟩ : ∃ d, M / BB = d := ⟨_, rfl⟩
  obtain ⟨mm, hmm⟩ : ∃ d, M % BB = d := ⟨_, rfl⟩
  rw [hQ] at h1 ⊢
  rw [hpd, hpm] at h3
  rw [hmd, hmm] at h4
  rw [hpm, hmm] at h2
  rw [hpd, hmd]
  -- all multiplied by Q
  have g1 : Q * (D + v * t + BB * pd) + Q * (m + o) = Q * (u * s + BB * (md + O)) + Q * p := by
    rw [← Nat.mul_add, ← Nat.mul_add]
    congr 1
    rw [Nat.mul_add]
    omega
  have e1 : v * (nv (y.take i) + Q * t) = v * nv (y.take i) + Q * (v * t) := by rw [Nat.mul_add, Nat.mul_left_comm]
  have e2 : u * (nv (x.take i) + Q * s) = u * nv (x.take i) + Q * (u * s) := by rw [Nat.mul_add, Nat.mul_left_comm]
  have e3 : Q * (D + v * t + BB * pd) = Q * D + Q * (v * t) + Q * BB * pd := by rw [Nat.mul_add, Nat.mul_add, Nat.mul_assoc]
  have e4 : Q * (u * s + BB * (md + O)) = Q * (u * s) + Q * BB * (md + O) := by rw [Nat.mul_add, Nat.mul_assoc]
  rw [e1, e2]
  rw [e3, e4] at g1
  omega
theorem CbInv.done {x y L : List Nat} {u v n p m o R : Nat} (h : CbInv x y L u v n p m o) (hL : L.length = n) (hl : Lim L) (hx : x.length ≤ n) (hy : y.length ≤ n) (hR : R + v * nv y = u * nv x) (hRn : R < BB ^ n) : nv L = R := by
  have h1 := h.val
  rw [List.take_of_length_le (by omega), List.take_of_length_le hx, List.take_of_length_le hy, ← hR] at h1
  have h2 := nv_lt hl
  rw [hL] at h2
  have h3 : (nv L + BB ^ n * p) % BB ^ n = (R + BB ^ n * (m + o)) % BB ^ n := by
    congr 1
    omega
  rwa [Nat.add_mul_mod_self_left, Nat.add_mul_mod_self_left, Nat.mod_eq_of_lt h2, Nat.mod_eq_of_lt hRn] at h3
/-! the leading words -/
theorem win_zero {n q r l0 l1 l2 t : Nat} (hr : r < 32) (h0 : l0 < BB) (h1 : l1 < BB) (h2 : l2 < BB) :
    (l0 + BB * l1 + BB * BB * l2 + BB * BB * BB * t) / 2 ^ r % 18446744073709551616 = l0 / 2 ^ r + l1 * 2 ^ (32 - r) + l2 * 2 ^ (64 - r) % 18446744073709551616 := by
  have c1 : BB = 2 ^ r * 2 ^ (32 - r) := by rw [← Nat.pow_add, show r + (32 - r) = 32 from by omega]; rfl
  have c2 : BB * BB = 2 ^ r * 2 ^ (64 - r) := by rw [← Nat.pow_add, show r + (64 - r) = 64 from by omega]; rfl
  have c3 : BB * BB * BB = 2 ^ r * (18446744073709551616 * 2 ^ (32 - r)) := by
    rw [show (18446744073709551616 : Nat) = 2 ^ 64 from by decide, ← Nat.pow_add, ← Nat.pow_add, show r + (64 + (32 - r)) = 96 from by omega]; decide
  have e : l0 + BB * l1 + BB * BB * l2 + BB * BB * BB * t = l0 + 2 ^ r * (l1 * 2 ^ (32 - r) + l2 * 2 ^ (64 - r) + 18446744073709551616 * (2 ^ (32 - r) * t)) := by
    rw [c3, c2]
    conv => lhs; lhs; lhs; rhs; rw [c1]
    rw [Nat.mul_add, Nat.mul_add, Nat.mul_comm l1, Nat.mul_comm l2]
    simp only [Nat.mul_assoc]
    omega
  rw [e, Nat.add_mul_div_left _ _ (Nat.two_pow_pos r)]
  have g : l0 / 2 ^ r + (l1 * 2 ^ (32 - r) + l2 * 2 ^ (64 - r) + 18446744073709551616 * (2 ^ (32 - r) * t)) = (l0 / 2 ^ r + l1 * 2 ^ (32 - r) + l2 * 2 ^ (64 - r)) + 18446744073709551616 * (2 ^ (32 - r) * t) := by omega
  rw [g, Nat.add_mul_mod_self_left]
  -- the third limb's part modulo 2^64
  have k1 : l0 / 2 ^ r < 2 ^ (32 - r) := by
    rw [Nat.div_lt_iff_lt_mul (Nat.two_pow_pos r), Nat.mul_comm, ← c1]; exact h0
  have k2 : l0 / 2 ^ r + l1 * 2 ^ (32 - r) < 2 ^ (64 - r) := by
    have : (l1 + 1) * 2 ^ (32 - r) ≤ BB * 2 ^ (32 - r) := Nat.mul_le_mul_right _ h1
    have e2 : BB * 2 ^ (32 - r) = 2 ^ (64 - r) := by rw [show BB = 2 ^ 32 from by decide, ← Nat.pow_add, show 32 + (32 - r) = 64 - r from by omega]
    rw [e2, Nat.add_mul, Nat.one_mul] at this
    omega
  have k3 : l2 * 2 ^ (64 - r) % 18446744073709551616 = 2 ^ (64 - r) * (l2 % 2 ^ r) := by
    have e3 : (18446744073709551616 : Nat) = 2 ^ (64 - r) * 2 ^ r := by rw [← Nat.pow_add, show 64 - r + r = 64 from by omega]
    rw [e3, Nat.mul_comm l2, Nat.mul_mod_mul_left]
  have k4 : l0 / 2 ^ r + l1 * 2 ^ (32 - r) + l2 * 2 ^ (64 - r) % 18446744073709551616 < 18446744073709551616 := by
    rw [k3]
    have e3 : (18446744073709551616 : Nat) = 2 ^ (64 - r) * 2 ^ r := by rw [← Nat.pow_add, show 64 - r + r = 64 from by omega]
    have h5 : l2 % 2 ^ r + 1 ≤ 2 ^ r := Nat.mod_lt _ (Nat.two_pow_pos r)
    have h6 := Nat.mul_le_mul_left (2 ^ (64 - r)) h5
    rw [Nat.mul_add, Nat.mul_one, ← e3] at h6
    omega
  obtain ⟨A, hA⟩ : ∃ A, l0 / 2 ^ r + l1 * 2 ^ (32 - r) = A := ⟨_, rfl⟩
  obtain ⟨C, hC⟩ : ∃ C, l2 * 2 ^ (64 - r) = C := ⟨_, rfl⟩
  rw [hA, hC] at k4 ⊢
  omega
theorem nv_three_split (l : List Nat) : ∃ t, nv l = l.getD 0 0 + BB * l.getD 1 0 + BB * BB * l.getD 2 0 + BB * BB * BB * t := by
  refine ⟨nv l.tail.tail.tail, ?_⟩
  rw [nv_split l, nv_split l.tail, nv_split l.tail.tail, getD_tail, getD_tail, getD_tail]
  simp only [Nat.mul_add, Nat.mul_assoc, Nat.zero_add, Nat.reduceAdd]
  omega
/-- the leading word of x above bit 32 q + r -/
def lead64 (x : List Nat) (q r : Nat) : Nat := x.getD q 0 / 2 ^ r + x.getD (q + 1) 0 * 2 ^ (32 - r) + x.getD (q + 2) 0 * 2 ^ (64 - r) % 18446744073709551616
theorem lead64_eq {x : List Nat} (hx : Lim x) {q r s : Nat} (hr : r < 32) (hs : s = 32 * q + r) (hlt : nv x / 2 ^ s < 18446744073709551616) : lead64 x q r = nv x / 2 ^ s := by
  unfold lead64
  rw [← Nat.mod_eq_of_lt hlt, hs, Nat.pow_add, ← BB_pow, ← Nat.div_div_eq_div_mul]
  by_cases hq : q ≤ x.length
  · obtain ⟨t, ht⟩ := nv_three_split (x.drop q)
    rw [getD_drop, getD_drop, getD_drop, Nat.add_zero] at ht
    rw [← nv_drop hx hq, ht]
    exact (win_zero (n := 0) (q := 0) hr (hx.at _) (hx.at _) (hx.at _)).symm
  · have h0 : nv x / BB ^ q = 0 := Nat.div_eq_of_lt (Nat.lt_of_lt_of_le (nv_lt hx) (Nat.pow_le_pow_right BB_pos (by omega)))
    rw [h0, getD_over (by omega), getD_over (by omega), getD_over (by omega)]
    simp

structure LhN (X Y : Nat) (e : Int) (x y u1 u2 v1 v2 : Nat) : Prop where
  lh : Lh e X Y x y u1 u2 v1 v2
  yx : y ≤ x
  vv : v1 ≤ v2
  uu : (v1 = 0 ∧ u1 = 1) ∨ (1 ≤ u2 ∧ u1 ≤ v1)
theorem LhN.start {X Y : Nat} (h : Y ≤ X) : LhN X Y 1 X Y 1 0 0 1 := ⟨Lh.start X Y, h, by omega, .inl ⟨rfl, rfl⟩⟩
theorem LhN.ix {X Y : Nat} {e : Int} {x y u1 u2 v1 v2 : Nat} (h : LhN X Y e x y u1 u2 v1 v2) : X = v2 * x + v1 * y := by
  have := h.lh.ix
  exact_mod_cast this
theorem LhN.small {X Y : Nat} {e : Int} {x y u1 u2 v1 v2 : Nat} (h : LhN X Y e x y u1 u2 v1 v2) (hX : X < 18446744073709551616) (c1 : v2 ≤ y) (c2 : v1 + v2 + y ≤ x) :
    v2 < 4294967296 ∧ v1 < 4294967296 ∧ u1 < 4294967296 ∧ u2 < 4294967296 ∧ v1 + v2 < 18446744073709551616 ∧ 1 ≤ v2 := by
  have h1 := h.ix
  have m2 : 1 ≤ v2 := by have := h.lh.m2; omega
  have le : u2 ≤ v2 := by have := h.lh.le; omega
  have h2 : v2 * v2 ≤ v2 * x := Nat.mul_le_mul_left _ (by omega)
  have h3 : v2 < 4294967296 := by
    rcases Nat.lt_or_ge v2 4294967296 with h | h
    · exact h
    · have := Nat.mul_le_mul h h
      omega
  have hv := h.vv
  have hu := h.uu
  refine ⟨h3, by omega, by omega, by omega, by omega, m2⟩
theorem LhN.step {X Y : Nat} {e : Int} {x y u1 u2 v1 v2 q r : Nat} (h : LhN X Y e x y u1 u2 v1 v2) (hX : X < 18446744073709551616) (c1 : v2 ≤ y) (c2 : v1 + v2 + y ≤ x) (hq : x / y = q) (hr : x % y = r) :
    LhN X Y (-e) y r u2 (u1 + q * u2) v2 (v1 + q * v2) ∧ u1 + q * u2 < 18446744073709551616 ∧ v1 + q * v2 < 18446744073709551616 ∧ r < y ∧ 1 ≤ q := by
  have m2 : 1 ≤ v2 := by have := h.lh.m2; omega
  have y0 : 0 < y := by omega
  have e1 : x = q * y + r := by rw [← hq, ← hr, Nat.mul_comm]; exact (Nat.div_add_mod x y).symm
  have q1 : 1 ≤ q := by rw [← hq]; exact (Nat.le_div_iff_mul_le y0).2 (by omega)
  have r1 : r < y := by rw [← hr]; exact Nat.mod_lt _ y0
  have lh := h.lh.step (q := q) (r := r) (by exact_mod_cast e1) (by omega)
  have lh2 : Lh (-e) X Y y r u2 ((u1 + q * u2 : Nat) : Int) v2 ((v1 + q * v2 : Nat) : Int) := by push_cast; exact lh
  have k1 : u2 ≤ q * u2 := Nat.le_mul_of_pos_left _ (by omega)
  have k2 : v2 ≤ q * v2 := Nat.le_mul_of_pos_left _ (by omega)
  have hle : u2 ≤ v2 := by have := h.lh.le; omega
  have huu := h.uu
  have h2 : LhN X Y (-e) y r u2 (u1 + q * u2) v2 (v1 + q * v2) := ⟨lh2, by omega, by omega, .inr ⟨by omega, hle⟩⟩
  have ix := h2.ix
  have b1 : v1 + q * v2 ≤ (v1 + q * v2) * y := Nat.le_mul_of_pos_right _ y0
  have le2 : u1 + q * u2 ≤ v1 + q * v2 := by have := lh2.le; omega
  exact ⟨h2, by omega, by omega, r1, q1⟩
theorem LhN.good {X Y A B M : Nat} {e : Int} {x y u1 u2 v1 v2 : Nat} (h : LhN X Y e x y u1 u2 v1 v2) (c1 : v2 ≤ y) (c2 : v1 + v2 + y ≤ x) (hM : 0 < M) (hA : A / M = X) (hB : B / M = Y) :
    ∃ P Q, Mx A B u1 u2 v1 v2 (decide (e = 1)) P Q := by
  have dA := Nat.div_add_mod A M
  have dB := Nat.div_add_mod B M
  rw [hA] at dA
  rw [hB] at dB
  have mA := Nat.mod_lt A hM
  have mB := Nat.mod_lt B hM
  obtain ⟨t1, t2⟩ := h.lh.true_pair (a := A) (b := B) (M := M) (α := (A % M : Nat)) (β := (B % M : Nat)) (by exact_mod_cast dA.symm) (by exact_mod_cast dB.symm) (by omega) (by omega) (by omega) (by omega) (by omega) (by omega) rfl rfl
  exact ⟨_, _, Mx.of h.lh.sg h.lh.det rfl rfl t1 t2 rfl rfl rfl rfl rfl rfl (fun hv => by rcases h.uu with ⟨h1, _⟩ | ⟨h1, _⟩ <;> omega) (by have := h.lh.m2; omega)⟩
/-- what the loop has found -/
def Fnd (A B u0 u1 v0 v1 : Nat) (ev : Bool) : Prop := v0 = 0 ∨ ((∃ P Q, Mx A B u0 u1 v0 v1 ev P Q) ∧ u0 < 4294967296 ∧ u1 < 4294967296 ∧ v0 < 4294967296 ∧ v1 < 4294967296)
theorem LhN.fnd {X Y A B M : Nat} {e : Int} {x y u1 u2 v1 v2 : Nat} (h : LhN X Y e x y u1 u2 v1 v2) (hX : X < 18446744073709551616) (c1 : v2 ≤ y) (c2 : v1 + v2 + y ≤ x) (hM : 0 < M) (hA : A / M = X) (hB : B / M = Y) :
    Fnd A B u1 u2 v1 v2 (decide (e = 1)) := by
  obtain ⟨s1, s2, s3, s4, _⟩ := h.small hX c1 c2
  exact .inr ⟨h.good c1 c2 hM hA hB, s3, s4, s2, s1⟩

set_option maxHeartbeats 1600000 in
theorem combine_c (a : Option Addr) (lx cx : Nat) (x : List Nat) (u : Nat) (a' : Option Addr) (ly cy : Nat) (y : List Nat) (v R n : Nat) (w : World) (hx : Rd w a lx cx x) (hy : Rd w a' ly cy y) (hn : n = max lx ly) (hnb : n ≤ 1048576)
    (hu : u < 4294967296) (hv : v < 4294967296) (hR : R + v * nv y = u * nv x) (hRn : R < BB ^ n) :
    Calls Tryd.prog 102 #[.slice a lx cx, .int .u64 u, .slice a' ly cy, .int .u64 v] w (NPost R w) := by
  have RX := Lib.hid hx
  have RY := Lib.hid hy
  have LX := Lib.hid hx.len_eq
  have LY := Lib.hid hy.len_eq
  have HR := Lib.hid hR
  have HRn := Lib.hid hRn
  have q1 := hx.le_cap
  have q2 := hx.cap_le
  have q3 := hy.le_cap
  have q4 := hy.cap_le
  have hlx : lx ≤ n := by omega
  have hly : ly ≤ n := by omega
  have hni : max (lx : Int) (ly : Int) = n := by omega
  have HNI := Lib.hid hni
  clear hx hy hR hRn hn hni
  go_enter Tryd.func102, Tryd.ntmps102
  go_wp2_with (at_make; refine wpList_make_win _ rfl _ _ 23 rfl Tryd.underlying23 _ n rfl rfl HNI.out (by omega) ?_)
  intro w1 hwin1 hb1 hs1
  have RX1 := Lib.hid (RX.out.below hb1)
  have RY1 := Lib.hid (RY.out.below hb1)
  have FX := Lib.hid (RX.out.far (Nat.le_refl _))
  have FY := Lib.hid (RY.out.far (Nat.le_refl _))
  go_wp2
  go_loopw [24, 11, 12, 13] (fun i s t z wr => ∃ (k p m o : Nat) (L : List Nat), k ≤ n ∧ i = .int .i64 k ∧ s = .int .u64 p ∧ t = .int .u64 m ∧ z = .int .u32 o ∧ p < 4294967296 ∧ m < 4294967296 ∧ o < 2 ∧ Hid (CbInv x y L u v k p m o) ∧ Hid (Win wr w.heap.size 0 n L) ∧ Hid (Only w.heap.size 0 (0 + n) w1 wr)) (fun i _ _ _ _ => n - (intOf i).toNat)
  case atStart => exact ⟨0, 0, 0, 0, _, by omega, rfl, rfl, rfl, rfl, by omega, by omega, by omega, Lib.hid (CbInv.start x y _ u v), hwin1, Lib.hid (Only.refl _ _ _ _)⟩
  case round =>
    obtain ⟨k, p, m, o, L, hk, rfl, rfl, rfl, rfl, hp, hm, ho, hinv, hwin, honly⟩ := hrel
    by_cases hkn : k < n
    · obtain ⟨s, hs⟩ : ∃ s, x.getD k 0 = s := ⟨_, rfl⟩
      obtain ⟨t, ht⟩ : ∃ t, y.getD k 0 = t := ⟨_, rfl⟩
      have hsl : s < 4294967296 := by rw [← hs]; exact RX.out.lim.at k
      have htl : t < 4294967296 := by rw [← ht]; exact RY.out.lim.at k
      obtain ⟨us, hus⟩ : ∃ z, u * s = z := ⟨_, rfl⟩
      obtain ⟨vt, hvt⟩ : ∃ z, v * t = z := ⟨_, rfl⟩
      obtain ⟨P, hP⟩ : ∃ z, p + us = z := ⟨_, rfl⟩
      obtain ⟨M, hM⟩ : ∃ z, m + vt = z := ⟨_, rfl⟩
      have hPb : P < 18446744073709551616 := by rw [← hP, ← hus]; exact ms_bound hu hsl hp
      have hMb : M < 18446744073709551616 := by rw [← hM, ← hvt]; exact ms_bound hv htl hm
      obtain ⟨D, hD⟩ : ∃ D, sbD (P % BB) (M % BB) o = D := ⟨_, rfl⟩
      obtain ⟨O, hO⟩ : ∃ O, sbB (P % BB) (M % BB) o = O := ⟨_, rfl⟩
      have hDl : D < BB := by rw [← hD]; exact sbD_lt _ _ _
      have hOl : O < 2 := by rw [← hO]; exact sbB_lt _ _ _
      have hst0 := hinv.out.step (by rw [hwin.out.len_eq]; omega) hs ht (by rw [hus]; exact hP) (by rw [hvt]; exact hM) ho hD hO
      have SB0 := sub32_c (P % BB) (M % BB) o wr (Nat.mod_lt _ (by decide)) (Nat.mod_lt _ (by decide)) ho
      rw [hD, hO, show ((P % BB : Nat) : Int) = (P : Int) % 4294967296 from by rw [BB_eq]; omega, show ((M % BB : Nat) : Int) = (M : Int) % 4294967296 from by rw [BB_eq]; omega] at SB0
      have SB := Lib.hid SB0
      have c1 := hwin.out.cell k (by omega)
      have f1 := hwin.out.free k (by omega)
      rw [Nat.zero_add] at c1 f1
      have hwin2 := Lib.hid (hwin.out.set0 (i := k) (by omega) (x := D) hDl rfl)
      have honly2 := Lib.hid (honly.out.set (j := k) (by omega) (by omega) (.int .u32 ↑D))
      rw [show P / BB = P / 4294967296 from by rw [BB_eq], show M / BB = M / 4294967296 from by rw [BB_eq]] at hst0
      have hst := Lib.hid hst0
      have hwu : IntKind.u64.wrap ((u : Int) * s) = (us : Nat) := by rw [show ((u : Int) * s) = (us : Nat) from by rw [← hus]; push_cast; rfl]; exact wr64 (by omega)
      have hwv : IntKind.u64.wrap ((v : Int) * t) = (vt : Nat) := by rw [show ((v : Int) * t) = (vt : Nat) from by rw [← hvt]; push_cast; rfl]; exact wr64 (by omega)
      have hPi : ((p : Int) + (us : Nat)) = (P : Nat) := by rw [← hP]; push_cast; rfl
      have hMi : ((m : Int) + (vt : Nat)) = (M : Nat) := by rw [← hM]; push_cast; rfl
      have husb : us < 18446744073709551616 := by omega
      have hvtb : vt < 18446744073709551616 := by omega
      have hx2 := RX1.out.only honly.out FX.out
      have hy2 := RY1.out.only honly.out FY.out
      have HP := Lib.hid hP
      have HM := Lib.hid hM
      have HUS := Lib.hid hus
      have HVT := Lib.hid hvt
      have HS := Lib.hid hs
      have HTT := Lib.hid ht
      clear hD hO SB0 hst0 hP hM hus hvt hs ht
      by_cases hkx : k < lx
      · by_cases hky : k < ly
        · rcases hx2.cells with g1 | ⟨b1, o1, e1, g1⟩
          · omega
          have cxk := g1 k hkx
          rw [HS.out] at cxk
          clear g1
          rcases hy2.cells with g2 | ⟨b2, o2, e2, g2⟩
          · omega
          have cyk := g2 k hky
          rw [HTT.out] at cyk
          clear g2
          clear hx2 hy2
          have SB2 := SB.out
          have SB3 := Lib.hid SB2
          clear SB2
          subst e1
          subst e2
          go_wp2_with (go_at_call 100; refine SB3.out.mono ?_; rintro e w' ⟨rfl, rfl⟩)
          go_roundw
          case rel => exact ⟨k + 1, P / 4294967296, M / 4294967296, O, _, by omega, by go_num, by go_num, by go_num, rfl, by omega, by omega, hOl, hst, hwin2, honly2⟩
          case measure => simp [intOf]; omega
        · rcases hx2.cells with g1 | ⟨b1, o1, e1, g1⟩
          · omega
          have cxk := g1 k hkx
          rw [HS.out] at cxk
          clear g1
          have z3 : t = 0 := by rw [← HTT.out]; exact getD_over (by rw [LY.out]; omega)
          have z4 : m = M := by have := HM.out; have := HVT.out; subst z3; simp at this; omega
          clear hx2 hy2
          clear hwv hMi z3
          subst z4
          have SB2 := SB.out
          rw [show ((m : Int) % 4294967296) = m from by omega] at SB2
          have SB3 := Lib.hid SB2
          clear SB2
          subst e1
          go_wp2_with (go_at_call 100; refine SB3.out.mono ?_; rintro e w' ⟨rfl, rfl⟩)
          go_roundw
          case rel => exact ⟨k + 1, P / 4294967296, m / 4294967296, O, _, by omega, by go_num, by go_num, by go_num, rfl, by omega, by omega, hOl, hst, hwin2, honly2⟩
          case measure => simp [intOf]; omega
      · by_cases hky : k < ly
        · have z1 : s = 0 := by rw [← HS.out]; exact getD_over (by rw [LX.out]; omega)
          have z2 : p = P := by have := HP.out; have := HUS.out; subst z1; simp at this; omega
          rcases hy2.cells with g2 | ⟨b2, o2, e2, g2⟩
          · omega
          have cyk := g2 k hky
          rw [HTT.out] at cyk
          clear g2
          clear hx2 hy2
          clear hwu hPi z1
          subst z2
          have SB2 := SB.out
          rw [show ((p : Int) % 4294967296) = p from by omega] at SB2
          have SB3 := Lib.hid SB2
          clear SB2
          subst e2
          go_wp2_with (go_at_call 100; refine SB3.out.mono ?_; rintro e w' ⟨rfl, rfl⟩)
          go_roundw
          case rel => exact ⟨k + 1, p / 4294967296, M / 4294967296, O, _, by omega, by go_num, by go_num, by go_num, rfl, by omega, by omega, hOl, hst, hwin2, honly2⟩
          case measure => simp [intOf]; omega
        · have z1 : s = 0 := by rw [← HS.out]; exact getD_over (by rw [LX.out]; omega)
          have z2 : p = P := by have := HP.out; have := HUS.out; subst z1; simp at this; omega
          have z3 : t = 0 := by rw [← HTT.out]; exact getD_over (by rw [LY.out]; omega)
          have z4 : m = M := by have := HM.out; have := HVT.out; subst z3; simp at this; omega
          clear hx2 hy2
          clear hwu hPi z1
          subst z2
          clear hwv hMi z3
          subst z4
          have SB2 := SB.out
          rw [show ((p : Int) % 4294967296) = p from by omega] at SB2
          rw [show ((m : Int) % 4294967296) = m from by omega] at SB2
          have SB3 := Lib.hid SB2
          clear SB2
          go_wp2_with (go_at_call 100; refine SB3.out.mono ?_; rintro e w' ⟨rfl, rfl⟩)
          go_roundw
          case rel => exact ⟨k + 1, p / 4294967296, m / 4294967296, O, _, by omega, by go_num, by go_num, by go_num, rfl, by omega, by omega, hOl, hst, hwin2, honly2⟩
          case measure => simp [intOf]; omega
    · have hke : k = n := by omega
      subst hke
      have hfin := hinv.out.done hwin.out.len_eq hwin.out.lim (by rw [LX.out]; omega) (by rw [LY.out]; omega) HR.out HRn.out
      have HF := Lib.hid hfin
      have hb3 := hb1.trans (honly.out.below (Nat.le_refl _))
      clear hfin
      go_wp2_with fail
      refine Calls.mono (trim_c _ _ _ _ _ (hwin.out.rd (Nat.le_refl _) (by omega))) ?_
      rintro e w4 ⟨rfl, rfl⟩
      go_wp2_with fail
      go_ret
      exact Rd.npost hwin.out (Nat.le_refl _) (by omega) HF.out hb3

/-- the leading word, its first j limbs -/
def pw (x : List Nat) (q r : Nat) : Nat → Nat
  | 0 => 0
  | 1 => x.getD q 0 / 2 ^ r
  | 2 => x.getD q 0 / 2 ^ r + x.getD (q + 1) 0 * 2 ^ (32 - r)
  | _ => lead64 x q r
theorem pw_over {x : List Nat} {q r j : Nat} (hj : j ≤ 3) (h : x.length ≤ q + j) : pw x q r j = lead64 x q r := by
  match j, hj with
  | 0, _ =>
    show 0 = lead64 x q r
    unfold lead64
    rw [getD_over (by omega), getD_over (by omega), getD_over (by omega)]
    simp
  | 1, _ =>
    show x.getD q 0 / 2 ^ r = lead64 x q r
    unfold lead64
    rw [getD_over (j := q + 1) (by omega), getD_over (j := q + 2) (by omega)]
    simp
  | 2, _ =>
    show x.getD q 0 / 2 ^ r + x.getD (q + 1) 0 * 2 ^ (32 - r) = lead64 x q r
    unfold lead64
    rw [getD_over (j := q + 2) (by omega)]
    simp
  | 3, _ => rfl
theorem lo_lt {l r : Nat} (hl : l < BB) (hr : r < 32) : l / 2 ^ r < 2 ^ (32 - r) := by
  rw [Nat.div_lt_iff_lt_mul (Nat.two_pow_pos r), ← Nat.pow_add, show 32 - r + r = 32 from by omega]
  exact hl
theorem lo2_lt {l0 l1 r : Nat} (h0 : l0 < BB) (h1 : l1 < BB) (hr : r < 32) : l0 / 2 ^ r + l1 * 2 ^ (32 - r) < 2 ^ (64 - r) := by
  have k1 := lo_lt h0 hr
  have : (l1 + 1) * 2 ^ (32 - r) ≤ BB * 2 ^ (32 - r) := Nat.mul_le_mul_right _ h1
  have e2 : BB * 2 ^ (32 - r) = 2 ^ (64 - r) := by rw [show BB = 2 ^ 32 from by decide, ← Nat.pow_add, show 32 + (32 - r) = 64 - r from by omega]
  rw [e2, Nat.add_mul, Nat.one_mul] at this
  omega
theorem hi_mod {l2 r : Nat} (hr : r < 32) : l2 * 2 ^ (64 - r) % 18446744073709551616 = (l2 % 2 ^ r) * 2 ^ (64 - r) := by
  have e3 : (18446744073709551616 : Nat) = 2 ^ (64 - r) * 2 ^ r := by rw [← Nat.pow_add, show 64 - r + r = 64 from by omega]
  rw [e3, Nat.mul_comm l2, Nat.mul_mod_mul_left, Nat.mul_comm]
theorem p64 {k : Nat} (h : k ≤ 64) : 2 ^ k ≤ 18446744073709551616 := (Nat.pow_le_pow_right (by decide) h : 2 ^ k ≤ 2 ^ 64)
set_option maxHeartbeats 800000 in
theorem window_c (a : Option Addr) (n cap : Nat) (x : List Nat) (top low q r : Nat) (w : World) (h : Rd w a n cap x) (hn : n ≤ 1048576) (ht : top = low + 64) (hlow : low = 32 * q + r) (hr : r < 32) (hq : q ≤ 1048576) :
    Calls Tryd.prog 101 #[.slice a n cap, .int .i64 top] w fun e w' => e = .returned (.int .u64 (lead64 x q r : Nat)) ∧ w = w' := by
  have H := Lib.hid h
  have HN := Lib.hid h.len_eq
  have HL := Lib.hid h.lim
  have q1 := h.le_cap
  have q2 := h.cap_le
  have hli : ((top : Int) - 64) = low := by omega
  have hqi : ((low : Int) / 32) = q := by omega
  have HLOW := Lib.hid hlow
  have htb : top ≤ 134217728 := by omega
  have hlb : low ≤ 134217728 := by omega
  have HFIN : Hid (∀ j, j ≤ 3 → n ≤ q + j → pw x q r j = lead64 x q r) := Lib.hid (fun j hj hl => pw_over hj (by rw [h.len_eq]; exact hl))
  clear h ht hlow
  go_enter Tryd.func101, Tryd.ntmps101
  go_wp2
  go_loop [7, 5] (fun i s => ∃ (j I W : Nat), j ≤ 3 ∧ I = q + j ∧ i = .int .i64 I ∧ s = .int .u64 W ∧ Hid (pw x q r j = W)) (fun i _ => q + 3 - (intOf i).toNat)
  case atStart => exact ⟨0, q, 0, by omega, by omega, rfl, rfl, Lib.hid rfl⟩
  case round =>
    obtain ⟨j, I, W, hj, hI, rfl, rfl, hW⟩ := hrel
    by_cases hj3 : j = 3
    · have hf : Hid (W = lead64 x q r) := Lib.hid (by rw [← hW.out, hj3]; rfl)
      have hI3 : I = q + 3 := by omega
      subst hI3
      clear hI
      go_wp2
      go_ret
      exact ⟨ret_int (by rw [hf.out]), rfl⟩
    by_cases hin : n ≤ I
    · have hf : Hid (W = lead64 x q r) := Lib.hid (by rw [← hW.out]; exact HFIN.out j hj (by omega))
      have hlt3 : I < q + 3 := by omega
      have HI := Lib.hid hI
      clear hI
      go_wp2
      go_ret
      exact ⟨ret_int (by rw [hf.out]), rfl⟩
    · have hIn : I < n := by omega
      have hlt3 : I < q + 3 := by omega
      rcases H.out.cells with g1 | ⟨b, off, e1, g1⟩
      · omega
      obtain ⟨t, ht⟩ : ∃ t, x.getD I 0 = t := ⟨_, rfl⟩
      have htl : t < 4294967296 := by rw [← ht]; exact HL.out.at I
      have cx := g1 I hIn
      rw [ht] at cx
      have hj2 : j = 0 ∨ j = 1 ∨ j = 2 := by omega
      have HI := Lib.hid hI
      have HTT := Lib.hid ht
      clear g1 ht hj3 hin
      have hlw := HLOW.out
      rcases hj2 with rfl | rfl | rfl
      · have hW0 : W = 0 := hW.out.symm
        subst hW0
        have hIq : I = q := by omega
        by_cases hr0 : r = 0
        · subst hr0
          have hat : (32 : Int) * I - low = 0 := by omega
          have hst : Hid (pw x q 0 1 = t) := Lib.hid (by rw [← HTT.out, hIq]; show x.getD q 0 / 2 ^ 0 = _; simp)
          have hor : bits BinOp.or IntKind.u64 0 (t : Int) = (t : Nat) := by
            have := or64n 0 t (by omega) (by omega)
            simpa using this
          clear hIq hI hlw hW
          subst e1
          go_wp2
          go_round
          case rel => exact ⟨1, I + 1, t, by omega, by have := HI.out; omega, by go_num, by go_num, hst⟩
          case measure => simp [intOf]; omega
        · have hat : (32 : Int) * I - low = -(r : Int) := by omega
          have hst : Hid (pw x q r 1 = t / 2 ^ r) := Lib.hid (by rw [← HTT.out, hIq]; rfl)
          have hdv : ((t : Int) / 2 ^ r) = ((t / 2 ^ r : Nat) : Int) := by push_cast; rfl
          have hdl : t / 2 ^ r ≤ t := Nat.div_le_self _ _
          obtain ⟨D, hD⟩ : ∃ D, t / 2 ^ r = D := ⟨_, rfl⟩
          rw [hD] at hst hdv hdl
          have hor : bits BinOp.or IntKind.u64 0 (D : Int) = (D : Nat) := by
            have := or64n 0 D (by omega) (by omega)
            simpa using this
          have hrp : 0 < r := by omega
          clear hIq hI hlw hW hD
          subst e1
          go_wp2
          go_round
          case rel => exact ⟨1, I + 1, D, by omega, by have := HI.out; omega, by go_num, by go_num, hst⟩
          case measure => simp [intOf]; omega
      · have hW1 : x.getD q 0 / 2 ^ r = W := hW.out
        have hIq : I = q + 1 := hI
        obtain ⟨c, hc⟩ : ∃ c, 32 - r = c := ⟨_, rfl⟩
        have hc1 : 1 ≤ c := by omega
        have hc2 : c ≤ 32 := by omega
        have hat : (32 : Int) * I - low = (c : Nat) := by omega
        have hWl : W < 2 ^ c := by rw [← hW1, ← hc]; exact lo_lt (HL.out.at q) hr
        obtain ⟨S, hS⟩ : ∃ S, t * 2 ^ c = S := ⟨_, rfl⟩
        have hSl : S < 18446744073709551616 := by
          rw [← hS]
          have : (t + 1) * 2 ^ c ≤ 4294967296 * 2 ^ 32 := Nat.mul_le_mul (by omega) (Nat.pow_le_pow_right (by decide) hc2)
          rw [Nat.add_mul, Nat.one_mul] at this
          have := Nat.two_pow_pos c
          omega
        have hWb : W < 4294967296 := Nat.lt_of_lt_of_le hWl (Nat.pow_le_pow_right (by decide) hc2 : 2 ^ c ≤ 2 ^ 32)
        have hsh : IntKind.u64.wrap ((t : Int) * 2 ^ c) = (S : Nat) := by
          rw [show ((t : Int) * 2 ^ c) = (S : Nat) from by rw [← hS]; push_cast; rfl]
          exact wr64 hSl
        have hor : bits BinOp.or IntKind.u64 (W : Int) (S : Int) = (W + S : Nat) := by
          rw [or64n W S (by omega) hSl, ← hS, or_add W t c hWl]
        obtain ⟨V, hV⟩ : ∃ V, W + S = V := ⟨_, rfl⟩
        rw [hV] at hor
        have hst : Hid (pw x q r 2 = V) := Lib.hid (by
          show x.getD q 0 / 2 ^ r + x.getD (q + 1) 0 * 2 ^ (32 - r) = V
          rw [hW1, ← hIq, HTT.out, hc, hS, hV])
        clear hIq hI hlw hW hW1 hc hWl hS hV
        subst e1
        go_wp2
        go_round
        case rel => exact ⟨2, I + 1, V, by omega, by have := HI.out; omega, by go_num, by go_num, hst⟩
        case measure => simp [intOf]; omega
      · have hW1 : x.getD q 0 / 2 ^ r + x.getD (q + 1) 0 * 2 ^ (32 - r) = W := hW.out
        have hIq : I = q + 2 := hI
        obtain ⟨c, hc⟩ : ∃ c, 64 - r = c := ⟨_, rfl⟩
        have hc1 : 33 ≤ c := by omega
        have hc2 : c ≤ 64 := by omega
        have hat : (32 : Int) * I - low = (c : Nat) := by omega
        have hWl : W < 2 ^ c := by rw [← hW1, ← hc]; exact lo2_lt (HL.out.at q) (HL.out.at _) hr
        have hWb : W < 18446744073709551616 := Nat.lt_of_lt_of_le hWl (p64 hc2)
        obtain ⟨S, hS⟩ : ∃ S, t * 2 ^ c % 18446744073709551616 = S := ⟨_, rfl⟩
        have hSl : S < 18446744073709551616 := by rw [← hS]; exact Nat.mod_lt _ (by decide)
        have hS2 : S = t % 2 ^ r * 2 ^ c := by rw [← hS, ← hc]; exact hi_mod hr
        have hsh : IntKind.u64.wrap ((t : Int) * 2 ^ c) = (S : Nat) := by
          obtain ⟨Z, hZ⟩ : ∃ Z, t * 2 ^ c = Z := ⟨_, rfl⟩
          rw [show ((t : Int) * 2 ^ c) = (Z : Int) from by rw [← hZ]; push_cast; rfl, IntKind.wrap_u64, ← hS, hZ]
          omega
        have hor : bits BinOp.or IntKind.u64 (W : Int) (S : Int) = (W + S : Nat) := by
          rw [or64n W S hWb hSl, hS2, or_add W _ c hWl]
        obtain ⟨V, hV⟩ : ∃ V, W + S = V := ⟨_, rfl⟩
        rw [hV] at hor
        have hst : Hid (pw x q r 3 = V) := Lib.hid (by
          show lead64 x q r = V
          unfold lead64
          rw [hW1, ← hIq, HTT.out, hc, hS, hV])
        clear hIq hI hlw hW hW1 hc hWl hS hS2 hV
        subst e1
        go_wp2
        go_round
        case rel => exact ⟨3, I + 1, V, by omega, by have := HI.out; omega, by go_num, by go_num, hst⟩
        case measure => simp [intOf]; omega

/-- what leading answers: a matrix, out of memory that the call made -/
def LdPost (A B : Nat) (w : World) (e : Ending) (w' : World) : Prop :=
  ∃ (u0 u1 v0 v1 : Nat) (ev : Bool), e = Ending.returned (.agg #[.int .u64 u0, .int .u64 u1, .int .u64 v0, .int .u64 v1, .bool ev]) ∧ u0 < 18446744073709551616 ∧ u1 < 18446744073709551616 ∧ v0 < 18446744073709551616 ∧ v1 < 18446744073709551616 ∧ Hid (Fnd A B u0 u1 v0 v1 ev) ∧ Below w.heap.size w w'
theorem pow_div_lt {A n s : Nat} (h : A < 2 ^ (s + 64)) : A / 2 ^ s < 18446744073709551616 := by
  rw [Nat.div_lt_iff_lt_mul (Nat.two_pow_pos s), show (18446744073709551616 : Nat) = 2 ^ 64 from by decide, ← Nat.pow_add, Nat.add_comm]
  exact h
set_option maxHeartbeats 1600000 in
theorem leading_c (a : Option Addr) (k ca : Nat) (x : List Nat) (a' : Option Addr) (m cb : Nat) (y : List Nat) (w : World) (hx : Rd w a (k + 1) ca x) (hy : Rd w a' m cb y) (hn : k + 1 ≤ 1048576) (hm : m ≤ 1048576) (hn2 : 2 < k + 1) (htop : x.getD k 0 ≠ 0) (hle : nv y ≤ nv x) :
    Calls Tryd.prog 94 #[.slice a (k + 1) ca, .slice a' m cb] w (LdPost (nv x) (nv y) w) := by
  obtain ⟨t, ht⟩ : ∃ t, x.getD k 0 = t := ⟨_, rfl⟩
  have htl : t < 4294967296 := by rw [← ht]; exact hx.lim.at _
  rw [ht] at htop
  -- the number of bits
  have hbl : bl (nv x) = 32 * k + bl t := by
    rw [← ht]
    exact bl_top hx.lim hx.len_eq (by rw [ht]; exact htop)
  have hb1 : bl t ≤ 32 := bl_le htl
  have hb0 : 1 ≤ bl t := by
    obtain ⟨k', hk, _⟩ := bl_spec htop
    omega
  obtain ⟨low, hlow⟩ : ∃ low, bl (nv x) = low + 64 := ⟨bl (nv x) - 64, by omega⟩
  have hAlt : nv x < 2 ^ (low + 64) := by rw [← hlow]; exact lt_bl _
  have hXl := pow_div_lt (n := 0) hAlt
  have hYl : nv y / 2 ^ low < 18446744073709551616 := Nat.lt_of_le_of_lt (Nat.div_le_div_right hle) hXl
  have hYX : nv y / 2 ^ low ≤ nv x / 2 ^ low := Nat.div_le_div_right hle
  have WX := fun w1 (hr : Rd w1 a (k + 1) ca x) => window_c a (k + 1) ca x (low + 64) low (low / 32) (low % 32) w1 hr hn rfl (by omega) (by omega) (by omega)
  have WY := fun w1 (hr : Rd w1 a' m cb y) => window_c a' m cb y (low + 64) low (low / 32) (low % 32) w1 hr hm rfl (by omega) (by omega) (by omega)
  rw [lead64_eq hx.lim (s := low) (by omega) (by omega) hXl] at WX
  rw [lead64_eq hy.lim (s := low) (by omega) (by omega) hYl] at WY
  obtain ⟨X, hX⟩ : ∃ X, nv x / 2 ^ low = X := ⟨_, rfl⟩
  obtain ⟨Y, hY⟩ : ∃ Y, nv y / 2 ^ low = Y := ⟨_, rfl⟩
  rw [hX] at WX hXl hYX
  rw [hY] at WY hYl hYX
  have KX := Lib.hid WX
  have KY := Lib.hid WY
  have LZ := Lib.hid (fun w => lz32_c t w htl)
  have H := Lib.hid hx
  have H' := Lib.hid hy
  have HX := Lib.hid hX
  have HY := Lib.hid hY
  have htp : (32 : Int) * ((k : Int) + 1) - (32 - (bl t : Nat)) = ((low + 64 : Nat) : Int) := by omega
  have hlb : low ≤ 33554432 := by omega
  have q1 := hx.le_cap
  have q2 := hx.cap_le
  rcases hx.cells with hc | ⟨b, off, rfl, hc⟩
  · omega
  have c1 := hc k (by omega)
  rw [ht] at c1
  have hblt : b < w.heap.size := World.block_lt_of_cell? w _ c1
  clear hx hy ht htop hbl hlow hAlt WX WY hX hY hc hle
  go_enter Tryd.func94, Tryd.ntmps94
  go_wp2_with fail
  refine Calls.mono (LZ.out _) ?_
  rintro e w' ⟨rfl, rfl⟩
  go_wp2_with fail
  refine Calls.mono (KX.out _ (H.out.alloc _)) ?_
  rintro e w' ⟨rfl, rfl⟩
  go_wp2_with fail
  refine Calls.mono (KY.out _ (H'.out.alloc _)) ?_
  rintro e w' ⟨rfl, rfl⟩
  go_wp2
  go_loopw [6, 7, 8, 9, 10, 11, 12, 13, 14] (fun sx sy s0 s1 s2 r0 r1 r2 se wr => ∃ (p q u0 u1 u2 v0 v1 v2 : Nat) (ev : Bool) (e : Int), sx = .int .u64 p ∧ sy = .int .u64 q ∧ s0 = .int .u64 u0 ∧ s1 = .int .u64 u1 ∧ s2 = .int .u64 u2 ∧ r0 = .int .u64 v0 ∧ r1 = .int .u64 v1 ∧ r2 = .int .u64 v2 ∧ se = .bool ev ∧
      p < 18446744073709551616 ∧ q < 18446744073709551616 ∧ u0 < 18446744073709551616 ∧ u1 < 18446744073709551616 ∧ u2 < 18446744073709551616 ∧ v0 < 18446744073709551616 ∧ v1 < 18446744073709551616 ∧ v2 < 18446744073709551616 ∧
      Hid (LhN X Y e p q u1 u2 v1 v2) ∧ Hid (Fnd (nv x) (nv y) u0 u1 v0 v1 ev) ∧ Hid (ev = decide (e = -1)) ∧ Hid (Dr (w.alloc (.cells #[.int .u64 0, .int .u64 0, .int .u64 0, .int .u64 0, .bool false] 107)) wr)) (fun _ sy _ _ _ _ _ _ _ _ => (intOf sy).toNat)
  case atStart => exact ⟨X, Y, 0, 1, 0, 0, 0, 1, false, 1, rfl, rfl, rfl, rfl, rfl, rfl, rfl, rfl, rfl, hXl, hYl, by omega, by omega, by omega, by omega, by omega, by omega, Lib.hid (LhN.start hYX), Lib.hid (.inl rfl), Lib.hid rfl, Lib.hid (Dr.refl _)⟩
  case round =>
    obtain ⟨p, q, u0, u1, u2, v0, v1, v2, ev, e, rfl, rfl, rfl, rfl, rfl, rfl, rfl, rfl, rfl, hp, hq, hu0, hu1, hu2, hv0, hv1, hv2, hlh, hfnd, hev, hdr⟩ := hrel
    have hqp := hlh.out.yx
    have m2 : 1 ≤ v2 := by have := hlh.out.lh.m2; omega
    by_cases c1 : v2 ≤ q
    · have hsum : v1 + v2 < 18446744073709551616 := by
        have h1 := hlh.out.ix
        have h2 : v2 ≤ v2 * p := Nat.le_mul_of_pos_right _ (by omega)
        have h3 : v1 ≤ v1 * q := Nat.le_mul_of_pos_right _ (by omega)
        omega
      by_cases c2 : v1 + v2 + q ≤ p
      · obtain ⟨D, hD⟩ : ∃ D, p / q = D := ⟨_, rfl⟩
        obtain ⟨R, hR⟩ : ∃ R, p % q = R := ⟨_, rfl⟩
        obtain ⟨st, b1, b2, hRq, hD1⟩ := hlh.out.step hXl c1 c2 hD hR
        have hst := Lib.hid st
        have hfn := Lib.hid (hlh.out.fnd hXl c1 c2 (Nat.two_pow_pos low) HX.out HY.out)
        have hev2 : Hid ((decide (e = 1)) = decide (-e = -1)) := Lib.hid (by congr 1; apply propext; constructor <;> intro h <;> omega)
        have hevn : (!ev) = decide (e = 1) := by
          rw [hev.out]
          rcases hlh.out.lh.sg with h | h <;> subst h <;> rfl
        obtain ⟨d1, hd1⟩ : ∃ d, D * u2 = d := ⟨_, rfl⟩
        obtain ⟨d2, hd2⟩ : ∃ d, D * v2 = d := ⟨_, rfl⟩
        rw [hd1] at b1
        rw [hd2] at b2
        have hw1 : IntKind.u64.wrap ((D : Int) * u2) = (d1 : Nat) := by rw [show ((D : Int) * u2) = (d1 : Nat) from by rw [← hd1]; push_cast; rfl]; exact wr64 (by omega)
        have hw2 : IntKind.u64.wrap ((D : Int) * v2) = (d2 : Nat) := by rw [show ((D : Int) * v2) = (d2 : Nat) from by rw [← hd2]; push_cast; rfl]; exact wr64 (by omega)
        have hDl : D < 18446744073709551616 := by rw [← hD]; exact Nat.lt_of_le_of_lt (Nat.div_le_self _ _) hp
        have hqz : ((q : Int) == 0) = false := by simp; omega
        have e1 : IntKind.u64.wrap ((p : Int) / q) = (D : Nat) := by rw [show ((p : Int) / q) = (D : Nat) from by rw [← hD]; push_cast; rfl]; exact wr64 hDl
        have e2 : (p : Int).tmod q = (R : Nat) := by rw [← hR]; exact (Int.ofNat_tmod p q).symm
        have e3 : ((p : Int) % q) = (R : Nat) := by rw [← hR]; push_cast; rfl
        have hc2 : decide ((v1 : Int) + v2 ≤ (p : Int) - q) = true := decide_eq_true (by omega)
        have HE1 := Lib.hid e1
        have HE2 := Lib.hid e2
        have HE3 := Lib.hid e3
        have HD1 := Lib.hid hd1
        have HD2 := Lib.hid hd2
        have HN := Lib.hid hevn
        clear e1 e2 e3 hd1 hd2 hD hR st hevn c2
        go_wp2
        have e1 := HE1.out
        have e2 := HE2.out
        have e3 := HE3.out
        go_quiet (fail)
        clear e1 e2 e3
        go_wp2
        go_roundw
        case rel => exact ⟨q, R, u1, u2, u1 + D * u2, v1, v2, v1 + D * v2, decide (e = 1), -e, rfl, rfl, rfl, rfl, by rw [HD1.out]; go_num, rfl, rfl, by rw [HD2.out]; go_num, by rw [← HN.out], hq, by omega, hu1, hu2, by rw [HD1.out]; omega, hv1, hv2, by rw [HD2.out]; omega, hst, hfn, hev2, Lib.hid (hdr.out.more _)⟩
        case measure => simp [intOf]; omega
      · have hc2 : decide ((v1 : Int) + v2 ≤ (p : Int) - q) = false := decide_eq_false (by omega)
        obtain ⟨nq, hwr⟩ := hdr.out
        subst hwr
        clear c2 hdr
        go_wp2
        refine bodyPost_ret (v := .agg #[.int .u64 u0, .int .u64 u1, .int .u64 v0, .int .u64 v1, .bool ev]) (by simp [results, Tryd.results94, go_sem]) rfl ?_
        exact ⟨u0, u1, v0, v1, ev, rfl, hu0, hu1, hv0, hv1, hfnd, (((((below_dN ((Below.refl _ _).alloc (Nat.le_refl _) _) nq).setCell (by simp) _).setCell (by simp) _).setCell (by simp) _).setCell (by simp) _).setCell (by simp) _⟩
    · obtain ⟨nq, hwr⟩ := hdr.out
      subst hwr
      clear hdr
      go_wp2
      refine bodyPost_ret (v := .agg #[.int .u64 u0, .int .u64 u1, .int .u64 v0, .int .u64 v1, .bool ev]) (by simp [results, Tryd.results94, go_sem]) rfl ?_
      exact ⟨u0, u1, v0, v1, ev, rfl, hu0, hu1, hv0, hv1, hfnd, (((((below_dN ((Below.refl _ _).alloc (Nat.le_refl _) _) nq).setCell (by simp) _).setCell (by simp) _).setCell (by simp) _).setCell (by simp) _).setCell (by simp) _⟩

theorem bcell {W w1 : World} (hb : Below W.heap.size W w1) : ∀ b o v, W.cell? ⟨b, o, none⟩ = some v → w1.cell? ⟨b, o, none⟩ = some v :=
  fun b o v h => (hb.cell (World.block_lt_of_cell? W _ h)).trans h
theorem Rd.drew {w : World} {a : Option Addr} {len cap : Nat} {l : List Nat} (h : Rd w a len cap l) : Rd w.drew a len cap l := ⟨h.1, h.2, h.3, h.4, h.5, h.6⟩
theorem below_drew {B : Nat} {w w' : World} (h : Below B w w') : Below B w w'.drew := h.trans ⟨rfl, rfl, rfl, Nat.le_refl _, fun _ _ => rfl⟩
set_option maxHeartbeats 1000000 in
theorem apply_ev (a : Option Addr) (la ca : Nat) (x : List Nat) (a' : Option Addr) (lb cb : Nat) (y : List Nat) (u0 u1 v0 v1 : Nat) (P Q : Nat) (w : World) (hx : Rd w a la ca x) (hy : Rd w a' lb cb y) (hla : la ≤ 1048576) (hlb : lb ≤ 1048576)
    (b0 : u0 < 4294967296) (b1 : u1 < 4294967296) (b2 : v0 < 4294967296) (b3 : v1 < 4294967296) (hm : Mx (nv x) (nv y) u0 u1 v0 v1 true P Q) :
    Calls Tryd.prog 95 #[.agg #[.int .u64 u0, .int .u64 u1, .int .u64 v0, .int .u64 v1, .bool true], .slice a la ca, .slice a' lb cb] w (DvPost P Q w) := by
  obtain ⟨n, hn⟩ : ∃ n, n = max la lb := ⟨_, rfl⟩
  obtain ⟨m1, m2⟩ := hm.ev rfl
  have hPn : P < BB ^ n := Nat.lt_of_le_of_lt hm.le (Nat.lt_of_lt_of_le (nv_lt hx.lim) (Nat.pow_le_pow_right BB_pos (by rw [hx.len_eq]; omega)))
  have hQn : Q < BB ^ n := Nat.lt_trans hm.lt hPn
  have C1 := Lib.hid (fun w1 (h1 : Rd w1 a la ca x) (h2 : Rd w1 a' lb cb y) => combine_c a la ca x u0 a' lb cb y v0 P n w1 h1 h2 hn (by omega) b0 b2 m1 hPn)
  have C2 := Lib.hid (fun w1 (h1 : Rd w1 a la ca x) (h2 : Rd w1 a' lb cb y) => combine_c a' lb cb y v1 a la ca x u1 Q n w1 h2 h1 (by omega) (by omega) b3 b1 m2 hQn)
  have HA := Lib.hid (show Rd (w.alloc (.cells #[.int .u64 u0, .int .u64 u1, .int .u64 v0, .int .u64 v1, .bool true] 107)).drew a la ca x from (hx.alloc _).drew)
  have HB := Lib.hid (show Rd (w.alloc (.cells #[.int .u64 u0, .int .u64 u1, .int .u64 v0, .int .u64 v1, .bool true] 107)).drew a' lb cb y from (hy.alloc _).drew)
  have KB : Hid (∀ w1, Below ((w.alloc (.cells #[.int .u64 u0, .int .u64 u1, .int .u64 v0, .int .u64 v1, .bool true] 107)).drew).heap.size (w.alloc (.cells #[.int .u64 u0, .int .u64 u1, .int .u64 v0, .int .u64 v1, .bool true] 107)).drew w1 → (w1.cell? ⟨w.heap.size, 0, none⟩ = some (.int .u64 u0) ∧ w1.cell? ⟨w.heap.size, 1, none⟩ = some (.int .u64 u1) ∧ w1.cell? ⟨w.heap.size, 2, none⟩ = some (.int .u64 v0) ∧ w1.cell? ⟨w.heap.size, 3, none⟩ = some (.int .u64 v1)) ∧ Hid (Rd w1 a la ca x) ∧ Hid (Rd w1 a' lb cb y) ∧ Hid (Below w.heap.size w w1)) := Lib.hid (by
    intro w1 hb
    have B0 : Below w.heap.size w (w.alloc (.cells #[.int .u64 u0, .int .u64 u1, .int .u64 v0, .int .u64 v1, .bool true] 107)).drew := below_drew ((Below.refl _ _).alloc (Nat.le_refl _) _)
    exact ⟨⟨bcell hb _ _ _ (by simp), bcell hb _ _ _ (by simp), bcell hb _ _ _ (by simp), bcell hb _ _ _ (by simp)⟩, Lib.hid (HA.out.below hb), Lib.hid (HB.out.below hb), Lib.hid (B0.trans (hb.mono B0.size))⟩)
  clear hx hy hm m1 m2 hn hPn hQn
  go_enter Tryd.func95, Tryd.ntmps95
  go_wp2
  go_region_held3 (fun w' => w'.cell? ⟨w.heap.size, 0, none⟩ = some (.int .u64 u0) ∧ w'.cell? ⟨w.heap.size, 1, none⟩ = some (.int .u64 u1) ∧ w'.cell? ⟨w.heap.size, 2, none⟩ = some (.int .u64 v0) ∧ w'.cell? ⟨w.heap.size, 3, none⟩ = some (.int .u64 v1)) (first | exact ⟨t0, t1, t2, t3⟩ | exact ⟨s0, s1, s2, s3⟩ | go_keep)
    (first
      | (go_at_call_of 102 (Value.slice a la ca); ((with_reducible refine Calls.mono (C1.out _ HA.out HB.out) ?_); rintro e w1 ⟨pa, pc, rfl, hP, hbP⟩; obtain ⟨⟨s0, s1, s2, s3⟩, rx, ry, bw⟩ := KB.out _ hbP; have HP := Lib.hid hP; clear hP hbP))
      | (go_at_call_of 102 (Value.slice a' lb cb); ((with_reducible refine Calls.mono (C2.out _ rx.out ry.out) ?_); rintro e w2 ⟨qa, qc, rfl, hQ, hbQ⟩; have t0 := bcell hbQ _ _ _ s0; have t1 := bcell hbQ _ _ _ s1; have t2 := bcell hbQ _ _ _ s2; have t3 := bcell hbQ _ _ _ s3; have HQ := Lib.hid hQ; have HP2 := Lib.hid (HP.out.below hbQ); have bw2 := Lib.hid (bw.out.trans (hbQ.mono bw.out.size)); clear hQ hbQ)))
  all_goals
    obtain ⟨lp, hlp⟩ : ∃ lp, (dig P).length = lp := ⟨_, rfl⟩
    have HLP := Lib.hid hlp
    obtain ⟨lq, hlq⟩ : ∃ lq, (dig Q).length = lq := ⟨_, rfl⟩
    have HLQ := Lib.hid hlq
    have RP := HP2.out
    have RQ := HQ.out
    rw [hlp] at RP ⊢
    rw [hlq] at RQ ⊢
    have RP2 := Lib.hid RP
    have RQ2 := Lib.hid RQ
    clear RP RQ hlp hlq
    go_wp2
    go_ret2
    unfold DvPost
    rw [HLP.out, HLQ.out]
    exact ⟨_, _, _, _, rfl, RP2.out, RQ2.out, bw2.out⟩
set_option maxHeartbeats 1000000 in
theorem apply_od (a : Option Addr) (la ca : Nat) (x : List Nat) (a' : Option Addr) (lb cb : Nat) (y : List Nat) (u0 u1 v0 v1 : Nat) (P Q : Nat) (w : World) (hx : Rd w a la ca x) (hy : Rd w a' lb cb y) (hla : la ≤ 1048576) (hlb : lb ≤ 1048576)
    (b0 : u0 < 4294967296) (b1 : u1 < 4294967296) (b2 : v0 < 4294967296) (b3 : v1 < 4294967296) (hm : Mx (nv x) (nv y) u0 u1 v0 v1 false P Q) :
    Calls Tryd.prog 95 #[.agg #[.int .u64 u0, .int .u64 u1, .int .u64 v0, .int .u64 v1, .bool false], .slice a la ca, .slice a' lb cb] w (DvPost P Q w) := by
  obtain ⟨n, hn⟩ : ∃ n, n = max la lb := ⟨_, rfl⟩
  obtain ⟨m1, m2⟩ := hm.od rfl
  have hPn : P < BB ^ n := Nat.lt_of_le_of_lt hm.le (Nat.lt_of_lt_of_le (nv_lt hx.lim) (Nat.pow_le_pow_right BB_pos (by rw [hx.len_eq]; omega)))
  have hQn : Q < BB ^ n := Nat.lt_trans hm.lt hPn
  have C1 := Lib.hid (fun w1 (h1 : Rd w1 a la ca x) (h2 : Rd w1 a' lb cb y) => combine_c a' lb cb y v0 a la ca x u0 P n w1 h2 h1 (by omega) (by omega) b2 b0 m1 hPn)
  have C2 := Lib.hid (fun w1 (h1 : Rd w1 a la ca x) (h2 : Rd w1 a' lb cb y) => combine_c a la ca x u1 a' lb cb y v1 Q n w1 h1 h2 hn (by omega) b1 b3 m2 hQn)
  have HA := Lib.hid (show Rd (w.alloc (.cells #[.int .u64 u0, .int .u64 u1, .int .u64 v0, .int .u64 v1, .bool false] 107)).drew a la ca x from (hx.alloc _).drew)
  have HB := Lib.hid (show Rd (w.alloc (.cells #[.int .u64 u0, .int .u64 u1, .int .u64 v0, .int .u64 v1, .bool false] 107)).drew a' lb cb y from (hy.alloc _).drew)
  have KB : Hid (∀ w1, Below ((w.alloc (.cells #[.int .u64 u0, .int .u64 u1, .int .u64 v0, .int .u64 v1, .bool false] 107)).drew).heap.size (w.alloc (.cells #[.int .u64 u0, .int .u64 u1, .int .u64 v0, .int .u64 v1, .bool false] 107)).drew w1 → (w1.cell? ⟨w.heap.size, 0, none⟩ = some (.int .u64 u0) ∧ w1.cell? ⟨w.heap.size, 1, none⟩ = some (.int .u64 u1) ∧ w1.cell? ⟨w.heap.size, 2, none⟩ = some (.int .u64 v0) ∧ w1.cell? ⟨w.heap.size, 3, none⟩ = some (.int .u64 v1)) ∧ Hid (Rd w1 a la ca x) ∧ Hid (Rd w1 a' lb cb y) ∧ Hid (Below w.heap.size w w1)) := Lib.hid (by
    intro w1 hb
    have B0 : Below w.heap.size w (w.alloc (.cells #[.int .u64 u0, .int .u64 u1, .int .u64 v0, .int .u64 v1, .bool false] 107)).drew := below_drew ((Below.refl _ _).alloc (Nat.le_refl _) _)
    exact ⟨⟨bcell hb _ _ _ (by simp), bcell hb _ _ _ (by simp), bcell hb _ _ _ (by simp), bcell hb _ _ _ (by simp)⟩, Lib.hid (HA.out.below hb), Lib.hid (HB.out.below hb), Lib.hid (B0.trans (hb.mono B0.size))⟩)
  clear hx hy hm m1 m2 hn hPn hQn
  go_enter Tryd.func95, Tryd.ntmps95
  go_wp2
  go_region_held3 (fun w' => w'.cell? ⟨w.heap.size, 0, none⟩ = some (.int .u64 u0) ∧ w'.cell? ⟨w.heap.size, 1, none⟩ = some (.int .u64 u1) ∧ w'.cell? ⟨w.heap.size, 2, none⟩ = some (.int .u64 v0) ∧ w'.cell? ⟨w.heap.size, 3, none⟩ = some (.int .u64 v1)) (first | exact ⟨t0, t1, t2, t3⟩ | exact ⟨s0, s1, s2, s3⟩ | go_keep)
    (first
      | (go_at_call_of 102 (Value.slice a' lb cb); ((with_reducible refine Calls.mono (C1.out _ HA.out HB.out) ?_); rintro e w1 ⟨pa, pc, rfl, hP, hbP⟩; obtain ⟨⟨s0, s1, s2, s3⟩, rx, ry, bw⟩ := KB.out _ hbP; have HP := Lib.hid hP; clear hP hbP))
      | (go_at_call_of 102 (Value.slice a la ca); ((with_reducible refine Calls.mono (C2.out _ rx.out ry.out) ?_); rintro e w2 ⟨qa, qc, rfl, hQ, hbQ⟩; have t0 := bcell hbQ _ _ _ s0; have t1 := bcell hbQ _ _ _ s1; have t2 := bcell hbQ _ _ _ s2; have t3 := bcell hbQ _ _ _ s3; have HQ := Lib.hid hQ; have HP2 := Lib.hid (HP.out.below hbQ); have bw2 := Lib.hid (bw.out.trans (hbQ.mono bw.out.size)); clear hQ hbQ)))
  all_goals
    obtain ⟨lp, hlp⟩ : ∃ lp, (dig P).length = lp := ⟨_, rfl⟩
    have HLP := Lib.hid hlp
    obtain ⟨lq, hlq⟩ : ∃ lq, (dig Q).length = lq := ⟨_, rfl⟩
    have HLQ := Lib.hid hlq
    have RP := HP2.out
    have RQ := HQ.out
    rw [hlp] at RP ⊢
    rw [hlq] at RQ ⊢
    have RP2 := Lib.hid RP
    have RQ2 := Lib.hid RQ
    clear RP RQ hlp hlq
    go_wp2
    go_ret2
    unfold DvPost
    rw [HLP.out, HLQ.out]
    exact ⟨_, _, _, _, rfl, RP2.out, RQ2.out, bw2.out⟩

/-- smaller numbers with the same divisors -/
def GrPost (A B : Nat) (w : World) (e : Ending) (w' : World) : Prop := ∃ P Q, Nat.gcd P Q = Nat.gcd A B ∧ P + Q < A + B ∧ Q ≤ P ∧ P ≤ max A B ∧ DvPost P Q w e w'
theorem DvPost.trans {P Q : Nat} {w0 w : World} {e : Ending} {w' : World} (hb : Below w0.heap.size w0 w) (h : DvPost P Q w e w') : DvPost P Q w0 e w' := by
  obtain ⟨a, c, a2, c2, h1, h2, h3, h4⟩ := h
  exact ⟨a, c, a2, c2, h1, h2, h3, hb.trans (h4.mono hb.size)⟩
set_option maxHeartbeats 1000000 in
theorem gr_ge (a : Option Addr) (k ca : Nat) (x : List Nat) (a' : Option Addr) (m cb : Nat) (y : List Nat) (w : World) (hx : Rd w a (k + 1) ca x) (hy : Rd w a' m cb y) (hn : k + 1 ≤ 1048575) (hm : m ≤ 1048575) (hn2 : 2 < k + 1) (htop : x.getD k 0 ≠ 0)
    (hm0 : 0 < m) (hle : nv y ≤ nv x) (hy0 : nv y ≠ 0) (hcy : y = dig (nv y)) :
    Calls Tryd.prog 81 #[.slice a (k + 1) ca, .slice a' m cb] w (GrPost (nv x) (nv y) w) := by
  have HC := Lib.hid (cmp_c _ _ _ _ _ _ _ _ w hx hy)
  obtain ⟨z, hz⟩ : ∃ z, cmpv (nv x) (nv y) = z := ⟨_, rfl⟩
  have hz0 : ¬ z < 0 := by rw [← hz]; intro h; have := cmpv_neg' h; omega
  rw [hz] at HC
  have H := Lib.hid hx
  have H' := Lib.hid hy
  have LD := Lib.hid (fun w1 (h1 : Rd w1 a (k + 1) ca x) (h2 : Rd w1 a' m cb y) => leading_c a k ca x a' m cb y w1 h1 h2 (by omega) (by omega) hn2 htop hle)
  have DM := Lib.hid (fun w1 (h1 : Rd w1 a (k + 1) ca x) (h2 : Rd w1 a' m cb y) => divMod_c a a' (k + 1) ca m cb x y w1 h1 h2 (by omega))
  rw [show dmR (nv x) (nv y) = nv x % nv y from if_neg hy0] at DM
  have AE := Lib.hid (fun w1 (h1 : Rd w1 a (k + 1) ca x) (h2 : Rd w1 a' m cb y) u0 u1 v0 v1 P Q b0 b1 b2 b3 hm => apply_ev a (k + 1) ca x a' m cb y u0 u1 v0 v1 P Q w1 h1 h2 (by omega) (by omega) b0 b1 b2 b3 hm)
  have AO := Lib.hid (fun w1 (h1 : Rd w1 a (k + 1) ca x) (h2 : Rd w1 a' m cb y) u0 u1 v0 v1 P Q b0 b1 b2 b3 hm => apply_od a (k + 1) ca x a' m cb y u0 u1 v0 v1 P Q w1 h1 h2 (by omega) (by omega) b0 b1 b2 b3 hm)
  have hmB : ((m : Int) == 0) = false := by simp; omega
  have HLE := Lib.hid hle
  have HY0 := Lib.hid hy0
  have HCY := Lib.hid hcy
  have HYL := Lib.hid hy.len_eq
  clear hx hy hz htop hle hy0 hcy
  go_enter Tryd.func81, Tryd.ntmps81
  go_wp2_with fail
  refine Calls.mono HC.out ?_
  rintro e w0 ⟨rfl, hdr⟩
  have HX0 := Lib.hid (hdr.rd H.out)
  have HY1 := Lib.hid (hdr.rd H'.out)
  have HB0 := Lib.hid (hdr.below (Below.refl w.heap.size w))
  clear hdr
  go_wp2_with fail
  refine Calls.mono (LD.out _ HX0.out HY1.out) ?_
  rintro e w1 ⟨u0, u1, v0, v1, ev, rfl, b0, b1, b2, b3, hf, hb⟩
  have HX2 := Lib.hid (HX0.out.below hb)
  have HY2 := Lib.hid (HY1.out.below hb)
  have HB1 := Lib.hid (HB0.out.trans (hb.mono HB0.out.size))
  clear hb
  by_cases hv : v0 = 0
  · subst hv
    go_wp2_with fail
    refine Calls.mono (DM.out _ (HX2.out.alloc _) (HY2.out.alloc _)) ?_
    unfold DMPost
    obtain ⟨lr, hlr⟩ : ∃ lr, (dig (nv x % nv y)).length = lr := ⟨_, rfl⟩
    have HLR := Lib.hid hlr
    rw [hlr]
    rintro e w3 ⟨qa, qc, ra, rc, rfl, hq, hr, hb3⟩
    have HR := Lib.hid hr
    have HY3 := Lib.hid ((HY2.out.alloc _).below hb3)
    have HB3 := Lib.hid ((HB1.out.alloc HB1.out.size _).trans (hb3.mono (Nat.le_trans HB1.out.size (by simp))))
    clear hq hr hb3 hlr
    go_wp2_with fail
    go_ret2
    have hml : (dig (nv y)).length = m := by rw [← HCY.out, HYL.out]
    refine ⟨nv y, nv x % nv y, ?_, ?_, ?_, by omega, a', cb, ra, rc, ?_, ?_, ?_, HB3.out⟩
    · rw [Nat.gcd_comm, ← Nat.gcd_rec, Nat.gcd_comm]
    · have := Nat.mod_lt (nv x) (show 0 < nv y from Nat.pos_of_ne_zero HY0.out); have := HLE.out; omega
    · exact Nat.le_of_lt (Nat.mod_lt _ (Nat.pos_of_ne_zero HY0.out))
    · rw [hml, HLR.out]; rfl
    · rw [hml, ← HCY.out]; exact HY3.out
    · rw [HLR.out]; exact HR.out
  · have hvB : ((v0 : Int) == 0) = false := by simp; omega
    have HV := Lib.hid hv
    rcases hf.out with h | ⟨⟨P, Q, hm⟩, c0, c1, c2, c3⟩
    · exact absurd h hv
    have HM := Lib.hid (And.intro hm.gcd (And.intro (hm.less hv) (And.intro hm.lt hm.le)))
    have HMX := Lib.hid hm
    clear hm hv hf
    cases ev
    · go_wp2_with fail
      refine Calls.mono (AO.out _ (HX2.out.alloc _) (HY2.out.alloc _) u0 u1 v0 v1 P Q c0 c1 c2 c3 HMX.out) ?_
      rintro e w3 hp
      obtain ⟨pa, pc, qa, qc, rfl, h3⟩ := hp.trans (w0 := w) (HB1.out.alloc HB1.out.size _)
      have H3 := Lib.hid h3
      clear hp h3
      go_wp2_with fail
      go_ret2
      exact ⟨P, Q, HM.out.1, HM.out.2.1, Nat.le_of_lt HM.out.2.2.1, Nat.le_trans HM.out.2.2.2 (by omega), pa, pc, qa, qc, rfl, H3.out⟩
    · go_wp2_with fail
      refine Calls.mono (AE.out _ (HX2.out.alloc _) (HY2.out.alloc _) u0 u1 v0 v1 P Q c0 c1 c2 c3 HMX.out) ?_
      rintro e w3 hp
      obtain ⟨pa, pc, qa, qc, rfl, h3⟩ := hp.trans (w0 := w) (HB1.out.alloc HB1.out.size _)
      have H3 := Lib.hid h3
      clear hp h3
      go_wp2_with fail
      go_ret2
      exact ⟨P, Q, HM.out.1, HM.out.2.1, Nat.le_of_lt HM.out.2.2.1, Nat.le_trans HM.out.2.2.2 (by omega), pa, pc, qa, qc, rfl, H3.out⟩
set_option maxHeartbeats 1000000 in
theorem gr_lt (a : Option Addr) (k ca : Nat) (x : List Nat) (a' : Option Addr) (m cb : Nat) (y : List Nat) (w : World) (hx : Rd w a (k + 1) ca x) (hy : Rd w a' m cb y) (hn : k + 1 ≤ 1048575) (hm : m ≤ 1048575) (hn2 : 2 < k + 1) (htop : x.getD k 0 ≠ 0)
    (hm0 : 0 < m) (hlt : nv y < nv x) (hy0 : nv y ≠ 0) (hcy : y = dig (nv y)) :
    Calls Tryd.prog 81 #[.slice a' m cb, .slice a (k + 1) ca] w (GrPost (nv x) (nv y) w) := by
  have hle : nv y ≤ nv x := Nat.le_of_lt hlt
  have HC := Lib.hid (cmp_c _ _ _ _ _ _ _ _ w hy hx)
  rw [cmpv_lt hlt] at HC
  have H := Lib.hid hx
  have H' := Lib.hid hy
  have LD := Lib.hid (fun w1 (h1 : Rd w1 a (k + 1) ca x) (h2 : Rd w1 a' m cb y) => leading_c a k ca x a' m cb y w1 h1 h2 (by omega) (by omega) hn2 htop hle)
  have DM := Lib.hid (fun w1 (h1 : Rd w1 a (k + 1) ca x) (h2 : Rd w1 a' m cb y) => divMod_c a a' (k + 1) ca m cb x y w1 h1 h2 (by omega))
  rw [show dmR (nv x) (nv y) = nv x % nv y from if_neg hy0] at DM
  have AE := Lib.hid (fun w1 (h1 : Rd w1 a (k + 1) ca x) (h2 : Rd w1 a' m cb y) u0 u1 v0 v1 P Q b0 b1 b2 b3 hm => apply_ev a (k + 1) ca x a' m cb y u0 u1 v0 v1 P Q w1 h1 h2 (by omega) (by omega) b0 b1 b2 b3 hm)
  have AO := Lib.hid (fun w1 (h1 : Rd w1 a (k + 1) ca x) (h2 : Rd w1 a' m cb y) u0 u1 v0 v1 P Q b0 b1 b2 b3 hm => apply_od a (k + 1) ca x a' m cb y u0 u1 v0 v1 P Q w1 h1 h2 (by omega) (by omega) b0 b1 b2 b3 hm)
  have hmB : ((k : Int) + 1 == 0) = false := by simp; omega
  have HLE := Lib.hid hle
  have HY0 := Lib.hid hy0
  have HCY := Lib.hid hcy
  have HYL := Lib.hid hy.len_eq
  clear hx hy htop hle hlt hy0 hcy
  go_enter Tryd.func81, Tryd.ntmps81
  go_wp2_with fail
  refine Calls.mono HC.out ?_
  rintro e w0 ⟨rfl, hdr⟩
  have HX0 := Lib.hid (hdr.rd H.out)
  have HY1 := Lib.hid (hdr.rd H'.out)
  have HB0 := Lib.hid (hdr.below (Below.refl w.heap.size w))
  clear hdr
  go_wp2_with fail
  refine Calls.mono (LD.out _ HX0.out HY1.out) ?_
  rintro e w1 ⟨u0, u1, v0, v1, ev, rfl, b0, b1, b2, b3, hf, hb⟩
  have HX2 := Lib.hid (HX0.out.below hb)
  have HY2 := Lib.hid (HY1.out.below hb)
  have HB1 := Lib.hid (HB0.out.trans (hb.mono HB0.out.size))
  clear hb
  by_cases hv : v0 = 0
  · subst hv
    go_wp2_with fail
    refine Calls.mono (DM.out _ (HX2.out.alloc _) (HY2.out.alloc _)) ?_
    unfold DMPost
    obtain ⟨lr, hlr⟩ : ∃ lr, (dig (nv x % nv y)).length = lr := ⟨_, rfl⟩
    have HLR := Lib.hid hlr
    rw [hlr]
    rintro e w3 ⟨qa, qc, ra, rc, rfl, hq, hr, hb3⟩
    have HR := Lib.hid hr
    have HY3 := Lib.hid ((HY2.out.alloc _).below hb3)
    have HB3 := Lib.hid ((HB1.out.alloc HB1.out.size _).trans (hb3.mono (Nat.le_trans HB1.out.size (by simp))))
    clear hq hr hb3 hlr
    go_wp2_with fail
    go_ret2
    have hml : (dig (nv y)).length = m := by rw [← HCY.out, HYL.out]
    refine ⟨nv y, nv x % nv y, ?_, ?_, ?_, by omega, a', cb, ra, rc, ?_, ?_, ?_, HB3.out⟩
    · rw [Nat.gcd_comm, ← Nat.gcd_rec, Nat.gcd_comm]
    · have := Nat.mod_lt (nv x) (show 0 < nv y from Nat.pos_of_ne_zero HY0.out); have := HLE.out; omega
    · exact Nat.le_of_lt (Nat.mod_lt _ (Nat.pos_of_ne_zero HY0.out))
    · rw [hml, HLR.out]; rfl
    · rw [hml, ← HCY.out]; exact HY3.out
    · rw [HLR.out]; exact HR.out
  · have hvB : ((v0 : Int) == 0) = false := by simp; omega
    have HV := Lib.hid hv
    rcases hf.out with h | ⟨⟨P, Q, hm⟩, c0, c1, c2, c3⟩
    · exact absurd h hv
    have HM := Lib.hid (And.intro hm.gcd (And.intro (hm.less hv) (And.intro hm.lt hm.le)))
    have HMX := Lib.hid hm
    clear hm hv hf
    cases ev
    · go_wp2_with fail
      refine Calls.mono (AO.out _ (HX2.out.alloc _) (HY2.out.alloc _) u0 u1 v0 v1 P Q c0 c1 c2 c3 HMX.out) ?_
      rintro e w3 hp
      obtain ⟨pa, pc, qa, qc, rfl, h3⟩ := hp.trans (w0 := w) (HB1.out.alloc HB1.out.size _)
      have H3 := Lib.hid h3
      clear hp h3
      go_wp2_with fail
      go_ret2
      exact ⟨P, Q, HM.out.1, HM.out.2.1, Nat.le_of_lt HM.out.2.2.1, Nat.le_trans HM.out.2.2.2 (by omega), pa, pc, qa, qc, rfl, H3.out⟩
    · go_wp2_with fail
      refine Calls.mono (AE.out _ (HX2.out.alloc _) (HY2.out.alloc _) u0 u1 v0 v1 P Q c0 c1 c2 c3 HMX.out) ?_
      rintro e w3 hp
      obtain ⟨pa, pc, qa, qc, rfl, h3⟩ := hp.trans (w0 := w) (HB1.out.alloc HB1.out.size _)
      have H3 := Lib.hid h3
      clear hp h3
      go_wp2_with fail
      go_ret2
      exact ⟨P, Q, HM.out.1, HM.out.2.1, Nat.le_of_lt HM.out.2.2.1, Nat.le_trans HM.out.2.2.2 (by omega), pa, pc, qa, qc, rfl, H3.out⟩

/-- the loop of Gcd: two numbers with the divisors asked for -/
structure GcSt (G k A B la lb : Nat) (w wr : World) (aa ab : Option Addr) (ca cb : Nat) : Prop where
  sum : A + B ≤ k
  g : Nat.gcd A B = G
  ea : (dig A).length = la
  eb : (dig B).length = lb
  ra : Rd wr aa la ca (dig A)
  rb : Rd wr ab lb cb (dig B)
  bel : Below w.heap.size w wr
  tab : Tab wr
set_option maxHeartbeats 2000000 in
theorem gcd_big (a a' : Option Addr) (len cap len' cap' : Nat) (l t : List Nat) (w : World) (h : Rd w a len cap l) (h' : Rd w a' len' cap' t) (hb : len ≤ 1048575) (hb' : len' ≤ 1048575) (hbig : ¬ ((dig (nv l)).length ≤ 2 ∧ (dig (nv t)).length ≤ 2)) (hT : Tab w) :
    Calls Tryd.prog 65 #[.slice a len cap, .slice a' len' cap'] w (NPost (Nat.gcd (nv l) (nv t)) w) := by
  have H := Lib.hid h
  have H' := Lib.hid h'
  have HT := Lib.hid hT
  clear hT
  obtain ⟨x, n, hx⟩ := Tm.mk' l
  obtain ⟨y, m, hy⟩ := Tm.mk' t
  have HX := Lib.hid hx.lend
  have HY := Lib.hid hy.lend
  have HRX := Lib.hid (hx.rd h)
  have HRY := Lib.hid (hy.rd h')
  have hnb : n ≤ 1048575 := by have := dig_length_le h.lim; rw [h.len_eq, hx.lend] at this; omega
  have hmb : m ≤ 1048575 := by have := dig_length_le h'.lim; rw [h'.len_eq, hy.lend] at this; omega
  obtain ⟨G, hG⟩ : ∃ G, Nat.gcd (nv l) (nv t) = G := ⟨_, rfl⟩
  rw [hx.lend, hy.lend] at hbig
  by_cases hlt : n < m
  · have C1 := Lib.hid (fun w1 (h1 : Rd w1 a' m cap' y) => clone_c a' m cap' y w1 h1 (by omega))
    have C2 := Lib.hid (fun w1 (h1 : Rd w1 a n cap x) => clone_c a n cap x w1 h1 (by omega))
    have hn2 : ¬ m ≤ 2 := by omega
    have hmn : n ≤ m := by omega
    have HE1 := Lib.hid hy.dg
    have HE2 := Lib.hid hx.dg
    have HL1 := Lib.hid hy.lend
    have HL2 := Lib.hid hx.lend
    have HG : Hid (Nat.gcd (nv t) (nv l) = G) := Lib.hid (Eq.trans (Nat.gcd_comm _ _) hG)
    rw [hG]
    clear h h' hx hy hbig hG
    go_enter Tryd.func65, Tryd.ntmps65
    go_wp2_with fail
    refine Calls.mono (trim_c _ _ _ l _ H.out) ?_
    rw [HX.out]
    rintro e w' ⟨rfl, rfl⟩
    go_wp2_with fail
    refine Calls.mono (trim_c _ _ _ t _ H'.out) ?_
    rw [HY.out]
    rintro e w' ⟨rfl, rfl⟩
    go_wp2_with fail
    refine Calls.mono (C1.out _ HRY.out) ?_
    rintro e w1 hp
    obtain ⟨va, ca1, rfl, hr, hb⟩ := hp.npost (n := nv t) HE1.out.symm
    rw [HL1.out] at hr ⊢
    have HR1 := Lib.hid hr
    have HB1 := Lib.hid hb
    have HY1 := Lib.hid (Rd.below HRX.out hb)
    clear hp hr hb
    go_wp2_with fail
    refine Calls.mono (C2.out _ HY1.out) ?_
    rintro e w2 hp
    obtain ⟨vb, cb1, rfl, hr, hb⟩ := hp.npost (n := nv l) HE2.out.symm
    rw [HL2.out] at hr ⊢
    have HR2 := Lib.hid hr
    have HA2 := Lib.hid (HR1.out.below hb)
    have HB2 := Lib.hid (HB1.out.trans (hb.mono HB1.out.size))
    have HT2 := Lib.hid (HT.out.below HB2.out)
    clear hp hr hb
    go_wp2
    go_loopg [0, 1] (nv l + nv t) (fun k sa sb wr => ∃ (A B la lb ca cb : Nat) (aa ab : Option Addr), sa = .slice aa la ca ∧ sb = .slice ab lb cb ∧ la ≤ 1048575 ∧ lb ≤ la ∧ Hid (GcSt G k A B la lb w wr aa ab ca cb))
    case atStart => exact ⟨nv t, nv l, m, n, _, _, _, _, rfl, rfl, by omega, hmn, Lib.hid ⟨by omega, HG.out, HL1.out, HL2.out, HA2.out, HR2.out, HB2.out, HT2.out⟩⟩
    case round =>
      obtain ⟨A, B, la, lb, ca, cb, aa, ab, rfl, rfl, hla, hlb, hs⟩ := hrel
      have qa := hs.out.ra.le_cap
      have qb := hs.out.ra.cap_le
      have qc := hs.out.rb.le_cap
      have qd := hs.out.rb.cap_le
      by_cases hb0 : lb = 0
      · subst hb0
        have hB : B = 0 := dig_nil_iff.1 (List.length_eq_zero_iff.1 hs.out.eb)
        have HGA : Hid (G = A) := Lib.hid (by rw [← hs.out.g, hB, Nat.gcd_zero_right])
        clear hB
        go_wp2
        go_ret
        unfold NPost
        rw [HGA.out]
        exact ⟨aa, ca, by rw [hs.out.ea]; rfl, by rw [hs.out.ea]; exact hs.out.ra, hs.out.bel⟩
      by_cases hsm : la ≤ 2
      · have bA := two_limbs (n := A) (by rw [hs.out.ea]; exact hsm)
        have bB := two_limbs (n := B) (by rw [hs.out.eb]; omega)
        have U1 := Lib.hid (uint_c _ _ _ _ wr hs.out.ra)
        rw [nv_dig, show uintV A = A from if_pos bA] at U1
        have U2 := fun w1 (hr : Rd w1 ab lb cb (dig B)) => uint_c _ _ _ _ w1 hr
        rw [nv_dig, show uintV B = B from if_pos bB] at U2
        have KU2 := Lib.hid U2
        have GW := Lib.hid (fun w1 (ht : Tab w1) => gcdWord_c A B w1 bA bB ht)
        rw [hs.out.g] at GW
        have hGl : G < 18446744073709551616 := by
          rw [← hs.out.g]
          rcases Nat.eq_zero_or_pos A with e | e
          · rw [e, Nat.gcd_zero_left]; exact bB
          · exact Nat.lt_of_le_of_lt (Nat.gcd_le_left _ e) bA
        have OG := Lib.hid (fun w1 => of_c G hGl w1)
        clear U2
        go_wp2_with fail
        refine Calls.mono U1.out ?_
        rintro e v1 ⟨rfl, hdr⟩
        have K1 := Lib.hid (hdr.rd hs.out.rb)
        have K2 := Lib.hid (hdr.below hs.out.bel)
        have K3 := Lib.hid (hs.out.tab.dr hdr)
        clear hdr
        go_wp2_with fail
        refine Calls.mono (KU2.out _ K1.out) ?_
        rintro e v2 ⟨rfl, hdr⟩
        have K4 := Lib.hid (hdr.below K2.out)
        have K5 := Lib.hid (K3.out.dr hdr)
        clear hdr
        go_wp2_with fail
        refine Calls.mono (GW.out _ K5.out) ?_
        rintro e v3 ⟨rfl, rfl⟩
        go_wp2_with fail
        refine Calls.mono (OG.out _) ?_
        unfold NPost
        obtain ⟨lr, hlr⟩ : ∃ lr, (dig G).length = lr := ⟨_, rfl⟩
        have HLR := Lib.hid hlr
        rw [hlr]
        rintro e v4 ⟨ra, rc, rfl, hrr, hb4⟩
        have HRR := Lib.hid hrr
        have hb5 := K4.out.trans (hb4.mono K4.out.size)
        clear hrr hlr
        go_wp2_with fail
        go_ret
        unfold NPost
        rw [HLR.out]
        exact ⟨_, _, rfl, HRR.out, hb5⟩
      · have GR : Hid (Calls Tryd.prog 81 #[.slice aa la ca, .slice ab lb cb] wr (GrPost A B wr)) := Lib.hid (by
          have hA0 : A ≠ 0 := by intro e; have := hs.out.ea; rw [e, dig_zero] at this; simp at this; omega
          have hB0 : B ≠ 0 := by intro e; have := hs.out.eb; rw [e, dig_zero] at this; simp at this; omega
          have tA := dig_top hA0
          have tB := dig_top hB0
          rw [hs.out.ea] at tA
          rw [hs.out.eb] at tB
          rcases Nat.lt_or_ge A B with hAB | hAB
          · have hll : lb = la := by have := dig_len_le (Nat.le_of_lt hAB); rw [hs.out.ea, hs.out.eb] at this; omega
            obtain ⟨j, hj⟩ : ∃ j, lb = j + 1 := ⟨lb - 1, by omega⟩
            have rb := hs.out.rb
            rw [hj] at rb tB ⊢
            have := gr_lt ab j cb (dig B) aa la ca (dig A) wr rb hs.out.ra (by omega) (by omega) (by omega) (by simpa using tB) (by omega) (by rw [nv_dig, nv_dig]; exact hAB) (by rw [nv_dig]; exact hA0) (by rw [nv_dig])
            rw [nv_dig, nv_dig] at this
            refine this.mono ?_
            rintro e w' ⟨P, Q, g1, g2, g3, g4, g5⟩
            exact ⟨P, Q, by rw [g1, Nat.gcd_comm], by omega, g3, by omega, g5⟩
          · obtain ⟨j, hj⟩ : ∃ j, la = j + 1 := ⟨la - 1, by omega⟩
            have ra := hs.out.ra
            rw [hj] at ra tA ⊢
            have := gr_ge aa j ca (dig A) ab lb cb (dig B) wr ra hs.out.rb (by omega) (by omega) (by omega) (by simpa using tA) (by omega) (by rw [nv_dig, nv_dig]; exact hAB) (by rw [nv_dig]; exact hB0) (by rw [nv_dig])
            rwa [nv_dig, nv_dig] at this)
        go_wp2_with fail
        refine Calls.mono GR.out ?_
        rintro e v1 ⟨P, Q, g1, g2, g3, g4, pa, pc, qa', qc', rfl, rP, rQ, bb⟩
        obtain ⟨lp, hlp⟩ : ∃ lp, (dig P).length = lp := ⟨_, rfl⟩
        obtain ⟨lq, hlq⟩ : ∃ lq, (dig Q).length = lq := ⟨_, rfl⟩
        have hlpq : lq ≤ lp := by rw [← hlp, ← hlq]; exact dig_len_le g3
        have hlpl : lp ≤ 1048575 := by
          rw [← hlp]
          have h1 := dig_len_le g4
          rcases Nat.le_total A B with h2 | h2
          · rw [Nat.max_eq_right h2, hs.out.eb] at h1; omega
          · rw [Nat.max_eq_left h2, hs.out.ea] at h1; omega
        rw [hlp] at rP ⊢
        rw [hlq] at rQ ⊢
        have ST : Hid (GcSt G (P + Q) P Q lp lq w v1 pa qa' pc qc') := Lib.hid ⟨Nat.le_refl _, g1.trans hs.out.g, hlp, hlq, rP, rQ, hs.out.bel.trans (bb.mono hs.out.bel.size), hs.out.tab.below bb⟩
        have MS : Hid (P + Q < gk) := Lib.hid (by have := hs.out.sum; omega)
        clear g1 g2 g3 g4 rP rQ bb hlp hlq
        go_wp2
        go_roundg (P + Q)
        case measure => exact MS.out
        case rel => exact ⟨P, Q, lp, lq, pc, qc', pa, qa', rfl, rfl, hlpl, hlpq, ST⟩
  · have C1 := Lib.hid (fun w1 (h1 : Rd w1 a n cap x) => clone_c a n cap x w1 h1 (by omega))
    have C2 := Lib.hid (fun w1 (h1 : Rd w1 a' m cap' y) => clone_c a' m cap' y w1 h1 (by omega))
    have hn2 : ¬ n ≤ 2 := by omega
    have hmn : m ≤ n := by omega
    have HE1 := Lib.hid hx.dg
    have HE2 := Lib.hid hy.dg
    have HL1 := Lib.hid hx.lend
    have HL2 := Lib.hid hy.lend
    have HG : Hid (Nat.gcd (nv l) (nv t) = G) := Lib.hid (Eq.trans rfl hG)
    rw [hG]
    clear h h' hx hy hbig hG
    go_enter Tryd.func65, Tryd.ntmps65
    go_wp2_with fail
    refine Calls.mono (trim_c _ _ _ l _ H.out) ?_
    rw [HX.out]
    rintro e w' ⟨rfl, rfl⟩
    go_wp2_with fail
    refine Calls.mono (trim_c _ _ _ t _ H'.out) ?_
    rw [HY.out]
    rintro e w' ⟨rfl, rfl⟩
    go_wp2_with fail
    refine Calls.mono (C1.out _ HRX.out) ?_
    rintro e w1 hp
    obtain ⟨va, ca1, rfl, hr, hb⟩ := hp.npost (n := nv l) HE1.out.symm
    rw [HL1.out] at hr ⊢
    have HR1 := Lib.hid hr
    have HB1 := Lib.hid hb
    have HY1 := Lib.hid (Rd.below HRY.out hb)
    clear hp hr hb
    go_wp2_with fail
    refine Calls.mono (C2.out _ HY1.out) ?_
    rintro e w2 hp
    obtain ⟨vb, cb1, rfl, hr, hb⟩ := hp.npost (n := nv t) HE2.out.symm
    rw [HL2.out] at hr ⊢
    have HR2 := Lib.hid hr
    have HA2 := Lib.hid (HR1.out.below hb)
    have HB2 := Lib.hid (HB1.out.trans (hb.mono HB1.out.size))
    have HT2 := Lib.hid (HT.out.below HB2.out)
    clear hp hr hb
    go_wp2
    go_loopg [0, 1] (nv l + nv t) (fun k sa sb wr => ∃ (A B la lb ca cb : Nat) (aa ab : Option Addr), sa = .slice aa la ca ∧ sb = .slice ab lb cb ∧ la ≤ 1048575 ∧ lb ≤ la ∧ Hid (GcSt G k A B la lb w wr aa ab ca cb))
    case atStart => exact ⟨nv l, nv t, n, m, _, _, _, _, rfl, rfl, by omega, hmn, Lib.hid ⟨by omega, HG.out, HL1.out, HL2.out, HA2.out, HR2.out, HB2.out, HT2.out⟩⟩
    case round =>
      obtain ⟨A, B, la, lb, ca, cb, aa, ab, rfl, rfl, hla, hlb, hs⟩ := hrel
      have qa := hs.out.ra.le_cap
      have qb := hs.out.ra.cap_le
      have qc := hs.out.rb.le_cap
      have qd := hs.out.rb.cap_le
      by_cases hb0 : lb = 0
      · subst hb0
        have hB : B = 0 := dig_nil_iff.1 (List.length_eq_zero_iff.1 hs.out.eb)
        have HGA : Hid (G = A) := Lib.hid (by rw [← hs.out.g, hB, Nat.gcd_zero_right])
        clear hB
        go_wp2
        go_ret
        unfold NPost
        rw [HGA.out]
        exact ⟨aa, ca, by rw [hs.out.ea]; rfl, by rw [hs.out.ea]; exact hs.out.ra, hs.out.bel⟩
      by_cases hsm : la ≤ 2
      · have bA := two_limbs (n := A) (by rw [hs.out.ea]; exact hsm)
        have bB := two_limbs (n := B) (by rw [hs.out.eb]; omega)
        have U1 := Lib.hid (uint_c _ _ _ _ wr hs.out.ra)
        rw [nv_dig, show uintV A = A from if_pos bA] at U1
        have U2 := fun w1 (hr : Rd w1 ab lb cb (dig B)) => uint_c _ _ _ _ w1 hr
        rw [nv_dig, show uintV B = B from if_pos bB] at U2
        have KU2 := Lib.hid U2
        have GW := Lib.hid (fun w1 (ht : Tab w1) => gcdWord_c A B w1 bA bB ht)
        rw [hs.out.g] at GW
        have hGl : G < 18446744073709551616 := by
          rw [← hs.out.g]
          rcases Nat.eq_zero_or_pos A with e | e
          · rw [e, Nat.gcd_zero_left]; exact bB
          · exact Nat.lt_of_le_of_lt (Nat.gcd_le_left _ e) bA
        have OG := Lib.hid (fun w1 => of_c G hGl w1)
        clear U2
        go_wp2_with fail
        refine Calls.mono U1.out ?_
        rintro e v1 ⟨rfl, hdr⟩
        have K1 := Lib.hid (hdr.rd hs.out.rb)
        have K2 := Lib.hid (hdr.below hs.out.bel)
        have K3 := Lib.hid (hs.out.tab.dr hdr)
        clear hdr
        go_wp2_with fail
        refine Calls.mono (KU2.out _ K1.out) ?_
        rintro e v2 ⟨rfl, hdr⟩
        have K4 := Lib.hid (hdr.below K2.out)
        have K5 := Lib.hid (K3.out.dr hdr)
        clear hdr
        go_wp2_with fail
        refine Calls.mono (GW.out _ K5.out) ?_
        rintro e v3 ⟨rfl, rfl⟩
        go_wp2_with fail
        refine Calls.mono (OG.out _) ?_
        unfold NPost
        obtain ⟨lr, hlr⟩ : ∃ lr, (dig G).length = lr := ⟨_, rfl⟩
        have HLR := Lib.hid hlr
        rw [hlr]
        rintro e v4 ⟨ra, rc, rfl, hrr, hb4⟩
        have HRR := Lib.hid hrr
        have hb5 := K4.out.trans (hb4.mono K4.out.size)
        clear hrr hlr
        go_wp2_with fail
        go_ret
        unfold NPost
        rw [HLR.out]
        exact ⟨_, _, rfl, HRR.out, hb5⟩
      · have GR : Hid (Calls Tryd.prog 81 #[.slice aa la ca, .slice ab lb cb] wr (GrPost A B wr)) := Lib.hid (by
          have hA0 : A ≠ 0 := by intro e; have := hs.out.ea; rw [e, dig_zero] at this; simp at this; omega
          have hB0 : B ≠ 0 := by intro e; have := hs.out.eb; rw [e, dig_zero] at this; simp at this; omega
          have tA := dig_top hA0
          have tB := dig_top hB0
          rw [hs.out.ea] at tA
          rw [hs.out.eb] at tB
          rcases Nat.lt_or_ge A B with hAB | hAB
          · have hll : lb = la := by have := dig_len_le (Nat.le_of_lt hAB); rw [hs.out.ea, hs.out.eb] at this; omega
            obtain ⟨j, hj⟩ : ∃ j, lb = j + 1 := ⟨lb - 1, by omega⟩
            have rb := hs.out.rb
            rw [hj] at rb tB ⊢
            have := gr_lt ab j cb (dig B) aa la ca (dig A) wr rb hs.out.ra (by omega) (by omega) (by omega) (by simpa using tB) (by omega) (by rw [nv_dig, nv_dig]; exact hAB) (by rw [nv_dig]; exact hA0) (by rw [nv_dig])
            rw [nv_dig, nv_dig] at this
            refine this.mono ?_
            rintro e w' ⟨P, Q, g1, g2, g3, g4, g5⟩
            exact ⟨P, Q, by rw [g1, Nat.gcd_comm], by omega, g3, by omega, g5⟩
          · obtain ⟨j, hj⟩ : ∃ j, la = j + 1 := ⟨la - 1, by omega⟩
            have ra := hs.out.ra
            rw [hj] at ra tA ⊢
            have := gr_ge aa j ca (dig A) ab lb cb (dig B) wr ra hs.out.rb (by omega) (by omega) (by omega) (by simpa using tA) (by omega) (by rw [nv_dig, nv_dig]; exact hAB) (by rw [nv_dig]; exact hB0) (by rw [nv_dig])
            rwa [nv_dig, nv_dig] at this)
        go_wp2_with fail
        refine Calls.mono GR.out ?_
        rintro e v1 ⟨P, Q, g1, g2, g3, g4, pa, pc, qa', qc', rfl, rP, rQ, bb⟩
        obtain ⟨lp, hlp⟩ : ∃ lp, (dig P).length = lp := ⟨_, rfl⟩
        obtain ⟨lq, hlq⟩ : ∃ lq, (dig Q).length = lq := ⟨_, rfl⟩
        have hlpq : lq ≤ lp := by rw [← hlp, ← hlq]; exact dig_len_le g3
        have hlpl : lp ≤ 1048575 := by
          rw [← hlp]
          have h1 := dig_len_le g4
          rcases Nat.le_total A B with h2 | h2
          · rw [Nat.max_eq_right h2, hs.out.eb] at h1; omega
          · rw [Nat.max_eq_left h2, hs.out.ea] at h1; omega
        rw [hlp] at rP ⊢
        rw [hlq] at rQ ⊢
        have ST : Hid (GcSt G (P + Q) P Q lp lq w v1 pa qa' pc qc') := Lib.hid ⟨Nat.le_refl _, g1.trans hs.out.g, hlp, hlq, rP, rQ, hs.out.bel.trans (bb.mono hs.out.bel.size), hs.out.tab.below bb⟩
        have MS : Hid (P + Q < gk) := Lib.hid (by have := hs.out.sum; omega)
        clear g1 g2 g3 g4 rP rQ bb hlp hlq
        go_wp2
        go_roundg (P + Q)
        case measure => exact MS.out
        case rel => exact ⟨P, Q, lp, lq, pc, qc', pa, qa', rfl, rfl, hlpl, hlpq, ST⟩
theorem gcd_c (a a' : Option Addr) (len cap len' cap' : Nat) (l t : List Nat) (w : World) (h : Rd w a len cap l) (h' : Rd w a' len' cap' t) (hb : len ≤ 1048575) (hb' : len' ≤ 1048575) (hT : Tab w) :
    Calls Tryd.prog 65 #[.slice a len cap, .slice a' len' cap'] w (NPost (Nat.gcd (nv l) (nv t)) w) := by
  by_cases hs : (dig (nv l)).length ≤ 2 ∧ (dig (nv t)).length ≤ 2
  · exact gcd_small a a' len cap len' cap' l t w h h' hs.1 hs.2 hT
  · exact gcd_big a a' len cap len' cap' l t w h h' hb hb' hs hT
theorem gcd_n {w : World} {v u : Value} {n m k j : Nat} (h : Nm w v n k) (h' : Nm w u m j) (hk : k ≤ 1048575) (hj : j ≤ 1048575) (hT : Tab w) :
    Calls Tryd.prog 65 #[v, u] w fun e w' => ∃ x, e = .returned x ∧ Cn w' x (Nat.gcd n m) ∧ Keep w w' := by
  obtain ⟨l, ⟨a, len, cap, rfl, hr⟩, rfl, hl⟩ := h
  obtain ⟨l', ⟨a', len', cap', rfl, hr'⟩, rfl, hl'⟩ := h'
  exact (gcd_c _ _ _ _ _ _ _ _ w hr hr' (by rw [← hr.len_eq]; omega) (by rw [← hr'.len_eq]; omega) hT).mono fun _ _ h => h.cn
end Go.Proofs.YtnalmjbgkedcoaaDoor
