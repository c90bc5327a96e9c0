/- Carried over from another seat by program (portn.py). -/
import Derived.Test.YtnalmjbgkedcoaaDoorNc
namespace Go.Proofs.YtnalmjbgkedcoaaDoor
set_option linter.unusedVariables false
/-- the digit of limb j that holds bit i -/
theorem bit_of {x : List Nat} (hx : Lim x) {i j s : Nat} (hi : i = 32 * j + s) (hs : s < 32) (hj : j < x.length) : x.getD j 0 / 2 ^ s % 2 = nv x / 2 ^ i % 2 := by
  have h1 := nv_drop hx (Nat.le_of_lt hj)
  have h2 := nv_split (x.drop j)
  rw [getD_drop, Nat.add_zero] at h2
  have e : (2 : Nat) ^ i = BB ^ j * 2 ^ s := by
    have : BB = 2 ^ 32 := rfl
    rw [hi, Nat.pow_add, this, ← Nat.pow_mul]
  rw [e, ← Nat.div_div_eq_div_mul, ← h1, h2]
  obtain ⟨m, hm⟩ : ∃ m, BB = 2 ^ s * (2 * m) := by
    refine ⟨2 ^ (31 - s), ?_⟩
    rw [show (2 : Nat) * 2 ^ (31 - s) = 2 ^ (32 - s) from by rw [show 32 - s = (31 - s) + 1 from by omega, Nat.pow_succ, Nat.mul_comm], ← Nat.pow_add, show s + (32 - s) = 32 from by omega]; rfl
  rw [hm, Nat.mul_assoc, Nat.mul_assoc, Nat.add_mul_div_left _ _ (Nat.two_pow_pos s), Nat.add_mul_mod_self_left]
/-- the bits from i on have been divided -/
structure RDiv (A B : Nat) (Q : List Nat) (r i : Nat) : Prop where
  rem : r = A / 2 ^ i % B
  quo : nv Q = A / 2 ^ i / B * 2 ^ i
  lim : Lim Q
theorem nv_rep (n : Nat) : nv (List.replicate n 0) = 0 := by
  induction n with
  | zero => rfl
  | succ n ih => rw [List.replicate_succ, nv, ih]; simp
theorem RDiv.start {A B n k : Nat} (hk : A < 2 ^ k) : RDiv A B (List.replicate n 0) 0 k := by
  refine ⟨by rw [Nat.div_eq_of_lt hk, Nat.zero_mod], by rw [Nat.div_eq_of_lt hk, Nat.zero_div, Nat.zero_mul, nv_rep], ?_⟩
  intro y hy
  rw [List.mem_replicate] at hy
  rw [hy.2]; exact BB_pos
theorem RDiv.done {A B r : Nat} {Q : List Nat} (h : RDiv A B Q r 0) : r = A % B ∧ nv Q = A / B := by
  have h1 := h.rem
  have h2 := h.quo
  rw [Nat.pow_zero, Nat.div_one] at h1 h2
  exact ⟨h1, by rw [h2, Nat.mul_one]⟩
theorem half (A i : Nat) : A / 2 ^ i = 2 * (A / 2 ^ (i + 1)) + A / 2 ^ i % 2 := by
  rw [Nat.pow_succ, ← Nat.div_div_eq_div_mul]; omega
/-- what is left behind bit i -/
def rn (r b : Nat) : Nat := r * 2 + b
theorem RDiv.low {A B r i b : Nat} {Q : List Nat} (h : RDiv A B Q r (i + 1)) (hb : A / 2 ^ i % 2 = b) (hB : 0 < B) (hlt : r * 2 + b < B) : RDiv A B Q (r * 2 + b) i := by
  have hh := half A i
  have h1 := h.rem
  have h2 := Nat.div_add_mod (A / 2 ^ (i + 1)) B
  rw [← h1] at h2
  obtain ⟨q, hq⟩ : ∃ q, A / 2 ^ (i + 1) / B = q := ⟨_, rfl⟩
  have h3 := h.quo
  rw [hq] at h2 h3
  have e : A / 2 ^ i = B * (2 * q) + (r * 2 + b) := by rw [hh, hb, ← h2, Nat.mul_left_comm]; omega
  refine ⟨?_, ?_, h.lim⟩
  · rw [e, Nat.mul_add_mod, Nat.mod_eq_of_lt hlt]
  · rw [e, Nat.mul_add_div hB, Nat.div_eq_of_lt hlt, h3, Nat.pow_succ, Nat.add_zero, Nat.mul_comm (2 ^ i) 2, ← Nat.mul_assoc, Nat.mul_comm q 2]
theorem or_bit (u s : Nat) (h : u % 2 ^ (s + 1) = 0) : u ||| 2 ^ s = u + 2 ^ s := by
  obtain ⟨t, rfl⟩ := Nat.dvd_of_mod_eq_zero h
  have hlt : 2 ^ s < 2 ^ (s + 1) := Nat.pow_lt_pow_right (by decide) (by omega)
  exact (Nat.two_pow_add_eq_or_of_lt hlt t).symm
theorem RDiv.high {A B r i b j s n : Nat} {Q : List Nat} (h : RDiv A B Q r (i + 1)) (hb : A / 2 ^ i % 2 = b) (hB : 0 < B) (hge : B ≤ r * 2 + b) (hi : i = 32 * j + s) (hs : s < 32) (hj : j < Q.length) (hn : Q.getD j 0 ||| 2 ^ s = n) :
    RDiv A B (Q.set j n) (r * 2 + b - B) i ∧ n < BB := by
  have hh := half A i
  have h1 := h.rem
  have hr : r < B := by rw [h1]; exact Nat.mod_lt _ hB
  have h2 := Nat.div_add_mod (A / 2 ^ (i + 1)) B
  rw [← h1] at h2
  obtain ⟨q, hq⟩ : ∃ q, A / 2 ^ (i + 1) / B = q := ⟨_, rfl⟩
  have h3 := h.quo
  rw [hq] at h2 h3
  have hb2 : b < 2 := by rw [← hb]; exact Nat.mod_lt _ (by decide)
  have e : A / 2 ^ i = B * (2 * q + 1) + (r * 2 + b - B) := by rw [hh, hb, ← h2, Nat.mul_add B, Nat.mul_left_comm B, Nat.mul_one, Nat.mul_add]; omega
  have hlt : r * 2 + b - B < B := by omega
  have hu := nv_drop h.lim (Nat.le_of_lt hj)
  have hu2 := nv_split (Q.drop j)
  rw [getD_drop, Nat.add_zero] at hu2
  have hul : Q.getD j 0 < BB := h.lim.at j
  have e2 : (2 : Nat) ^ i = BB ^ j * 2 ^ s := by
    have : BB = 2 ^ 32 := rfl
    rw [hi, Nat.pow_add, this, ← Nat.pow_mul]
  have e3 : (2 : Nat) ^ (i + 1) = BB ^ j * 2 ^ (s + 1) := by rw [Nat.pow_succ, e2, Nat.mul_assoc, ← Nat.pow_succ]
  have hdv : nv Q / BB ^ j = q * 2 ^ (s + 1) := by
    rw [h3, e3, Nat.mul_left_comm, Nat.mul_div_cancel_left _ (Nat.pow_pos BB_pos)]
  rw [hdv] at hu
  have hm : Q.getD j 0 % 2 ^ (s + 1) = 0 := by
    have hd : 2 ^ (s + 1) ∣ BB := by
      rw [show BB = 2 ^ 32 from rfl]; exact Nat.pow_dvd_pow 2 (by omega)
    have h6 : Q.getD j 0 = nv (Q.drop j) % BB := by rw [hu2, Nat.add_mul_mod_self_left, Nat.mod_eq_of_lt hul]
    rw [h6, Nat.mod_mod_of_dvd _ hd, hu, Nat.mul_mod_left]
  have hor := or_bit _ _ hm
  rw [hn] at hor
  have hnl : n < BB := by
    rw [← hn]
    exact Nat.or_lt_two_pow (n := 32) hul (Nat.pow_lt_pow_right (by decide) hs)
  refine ⟨⟨?_, ?_, ?_⟩, hnl⟩
  · rw [e, Nat.mul_add_mod, Nat.mod_eq_of_lt hlt]
  · have h7 := nv_set (L := Q) (i := j) (y := n) hj
    rw [e, Nat.mul_add_div hB, Nat.div_eq_of_lt hlt, Nat.add_zero, Nat.add_mul, Nat.one_mul]
    have h9 : BB ^ j * n = BB ^ j * Q.getD j 0 + 2 ^ i := by rw [hor, Nat.mul_add, ← e2]
    rw [h3, Nat.pow_succ] at h7
    have h8 : q * (2 ^ i * 2) = 2 * q * 2 ^ i := by rw [Nat.mul_comm (2 ^ i) 2, ← Nat.mul_assoc, Nat.mul_comm q 2]
    omega
  · intro y hy
    rcases List.mem_or_eq_of_mem_set hy with h' | rfl
    · exact h.lim y h'
    · exact hnl
end Go.Proofs.YtnalmjbgkedcoaaDoor
