/- Carried over from another seat by program (portn.py). -/
import Derived.Test.YtnalmjbgkedcoaaDoorNc
import Derived.Lib.TrailingZeros
namespace Go.Proofs.YtnalmjbgkedcoaaDoor
set_option linter.unusedVariables false
/-- trailing zeros of a word -/
def tz (x : Nat) : Nat := Lib.ctz 64 x
theorem tz_dec {x : Nat} (h0 : x ≠ 0) (hx : x < 18446744073709551616) : ∃ m, x = 2 ^ tz x * (2 * m + 1) ∧ tz x < 64 := by
  obtain ⟨m, h1, h2⟩ := Lib.ctzFrom_spec 64 x (by omega) hx
  refine ⟨m, ?_, ?_⟩ <;> (unfold tz Lib.ctz; rw [if_neg h0]; assumption)
theorem two_uniq {a b m n : Nat} (h : 2 ^ a * (2 * m + 1) = 2 ^ b * (2 * n + 1)) : a = b := by
  have aux : ∀ a b m n : Nat, a ≤ b → 2 ^ a * (2 * m + 1) = 2 ^ b * (2 * n + 1) → a = b := by
    intro a b m n hab h
    obtain ⟨d, rfl⟩ : ∃ d, b = a + d := ⟨b - a, by omega⟩
    rw [Nat.pow_add, Nat.mul_assoc] at h
    have h1 := Nat.eq_of_mul_eq_mul_left (Nat.two_pow_pos a) h
    cases d with
    | zero => rfl
    | succ d =>
      rw [Nat.pow_succ, Nat.mul_assoc, Nat.mul_comm (2 ^ d), Nat.mul_assoc] at h1
      omega
  rcases Nat.le_total a b with hab | hab
  · exact aux a b m n hab h
  · exact (aux b a n m hab h.symm).symm
theorem or_pow (a x y : Nat) : (2 ^ a * x) ||| (2 ^ a * y) = 2 ^ a * (x ||| y) := by
  rw [Nat.mul_comm _ x, Nat.mul_comm _ y, Nat.mul_comm _ (x ||| y), ← Nat.shiftLeft_eq, ← Nat.shiftLeft_eq, ← Nat.shiftLeft_eq, Nat.shiftLeft_or_distrib]
theorem odd_of {x : Nat} (h : x % 2 = 1) : ∃ m, x = 2 * m + 1 := ⟨x / 2, by omega⟩
theorem or_dec {a b m n : Nat} (hab : a ≤ b) : ∃ k, (2 ^ a * (2 * m + 1)) ||| (2 ^ b * (2 * n + 1)) = 2 ^ a * (2 * k + 1) := by
  obtain ⟨d, rfl⟩ : ∃ d, b = a + d := ⟨b - a, by omega⟩
  rw [Nat.pow_add, Nat.mul_assoc, or_pow]
  obtain ⟨k, hk⟩ := odd_of (x := (2 * m + 1) ||| (2 ^ d * (2 * n + 1))) (Nat.or_mod_two_eq_one.2 (.inl (by omega)))
  exact ⟨k, by rw [hk]⟩
theorem or_lt {x y : Nat} (hx : x < 18446744073709551616) (hy : y < 18446744073709551616) : x ||| y < 18446744073709551616 := Nat.or_lt_two_pow (n := 64) hx hy
theorem or_ne {x y : Nat} (hx : x ≠ 0) : x ||| y ≠ 0 := by
  intro h
  exact hx (Nat.or_eq_zero_iff.1 h).1
theorem odd_cop {u : Nat} (h : u % 2 = 1) (d : Nat) : Nat.Coprime (2 ^ d) u := by
  refine Nat.Coprime.pow_left d ?_
  unfold Nat.Coprime
  rw [Nat.gcd_rec, h]
  rfl
theorem gcd_two {u : Nat} (h : u % 2 = 1) (d v : Nat) : Nat.gcd u (2 ^ d * v) = Nat.gcd u v := by
  rw [Nat.gcd_comm, Nat.Coprime.gcd_mul_left_cancel v (odd_cop h d), Nat.gcd_comm]
theorem tz_or_left {x y : Nat} (hx0 : x ≠ 0) (hy0 : y ≠ 0) (hx : x < 18446744073709551616) (hy : y < 18446744073709551616) (h : tz x ≤ tz y) : tz (x ||| y) = tz x := by
  obtain ⟨m, h1, _⟩ := tz_dec hx0 hx
  obtain ⟨n, h2, _⟩ := tz_dec hy0 hy
  obtain ⟨k, h3, _⟩ := tz_dec (or_ne (y := y) hx0) (or_lt hx hy)
  obtain ⟨j, h4⟩ := or_dec (m := m) (n := n) h
  rw [← h1, ← h2, h3] at h4
  exact two_uniq h4
theorem or_comm' (x y : Nat) : x ||| y = y ||| x := Nat.or_comm x y
/-- the odd part -/
def odp (x : Nat) : Nat := x / 2 ^ tz x
theorem odp_odd {x : Nat} (h0 : x ≠ 0) (hx : x < 18446744073709551616) : odp x % 2 = 1 ∧ x = 2 ^ tz x * odp x := by
  obtain ⟨m, h1, _⟩ := tz_dec h0 hx
  have e : odp x = 2 * m + 1 := by
    unfold odp
    conv => lhs; lhs; rw [h1]
    exact Nat.mul_div_cancel_left _ (Nat.two_pow_pos _)
  rw [e]
  exact ⟨by omega, h1⟩
theorem odp_le (x : Nat) : odp x ≤ x := Nat.div_le_self _ _
theorem gw_start {x y : Nat} (hx0 : x ≠ 0) (hy0 : y ≠ 0) (hx : x < 18446744073709551616) (hy : y < 18446744073709551616) :
    Nat.gcd x y = Nat.gcd (odp x) y * 2 ^ tz (x ||| y) := by
  obtain ⟨o1, e1⟩ := odp_odd hx0 hx
  obtain ⟨o2, e2⟩ := odp_odd hy0 hy
  have g1 : Nat.gcd (odp x) y = Nat.gcd (odp x) (odp y) := by
    conv => lhs; rhs; rw [e2]
    exact gcd_two o1 _ _
  rw [g1]
  rcases Nat.le_total (tz x) (tz y) with h | h
  · rw [tz_or_left hx0 hy0 hx hy h]
    conv => lhs; rw [e1, e2]
    obtain ⟨d, hd⟩ : ∃ d, tz y = tz x + d := ⟨tz y - tz x, by omega⟩
    rw [hd, Nat.pow_add, Nat.mul_assoc, Nat.gcd_mul_left, gcd_two o1, Nat.mul_comm]
  · rw [or_comm', tz_or_left hy0 hx0 hy hx h]
    conv => lhs; rw [e1, e2]
    obtain ⟨d, hd⟩ : ∃ d, tz x = tz y + d := ⟨tz x - tz y, by omega⟩
    rw [hd, Nat.pow_add, Nat.mul_assoc, Nat.gcd_mul_left, Nat.gcd_comm, gcd_two o2, Nat.mul_comm, Nat.gcd_comm]
/-- the loop of GcdWord -/
structure GwInv (G x y : Nat) : Prop where
  odd : x % 2 = 1
  g : Nat.gcd x y = G
theorem GwInv.start {x y : Nat} (hx0 : x ≠ 0) (hx : x < 18446744073709551616) : GwInv (Nat.gcd (odp x) y) (odp x) y := ⟨(odp_odd hx0 hx).1, rfl⟩
theorem GwInv.done {G x : Nat} (h : GwInv G x 0) : x = G := by rw [← h.g, Nat.gcd_zero_right]
theorem GwInv.step_gt {G x y : Nat} (h : GwInv G x y) (h0 : y ≠ 0) (hy : y < 18446744073709551616) (hgt : odp y < x) : GwInv G (odp y) (x - odp y) := by
  obtain ⟨o2, e2⟩ := odp_odd h0 hy
  refine ⟨o2, ?_⟩
  rw [Nat.gcd_sub_self_right (by omega), Nat.gcd_comm, ← h.g]
  conv => rhs; rhs; rw [e2]
  exact (gcd_two h.odd _ _).symm
theorem GwInv.step_le {G x y : Nat} (h : GwInv G x y) (h0 : y ≠ 0) (hy : y < 18446744073709551616) (hle : x ≤ odp y) : GwInv G x (odp y - x) := by
  obtain ⟨o2, e2⟩ := odp_odd h0 hy
  refine ⟨h.odd, ?_⟩
  rw [Nat.gcd_sub_self_right hle, ← h.g]
  conv => rhs; rhs; rw [e2]
  exact (gcd_two h.odd _ _).symm
end Go.Proofs.YtnalmjbgkedcoaaDoor
