/- Shifting limbs to the right. -/
import Derived.Test.YtgoiechhhnhgaaaDoorPlain4
namespace Go.Proofs.YtgoiechhhnhgaaaDoor
set_option linter.unusedVariables false
theorem nv_drop {l : List Nat} (h : Lim l) {i : Nat} (hi : i ≤ l.length) : nv (l.drop i) = nv l / BB ^ i := by
  have h1 := nv_take_drop l hi
  have h2 := nv_lt (h.take i)
  rw [List.length_take, Nat.min_eq_left hi] at h2
  rw [h1, Nat.add_mul_div_left _ _ (Nat.pow_pos BB_pos), Nat.div_eq_of_lt h2, Nat.zero_add]
theorem nv_two_split (l : List Nat) : ∃ t, nv l = l.getD 0 0 + BB * l.getD 1 0 + BB * BB * t := by
  refine ⟨nv l.tail.tail, ?_⟩
  rw [nv_split l, nv_split l.tail, getD_tail, Nat.mul_add, Nat.zero_add]
  rw [Nat.mul_assoc]
  omega
theorem getD_drop (l : List Nat) (i j : Nat) : (l.drop i).getD j 0 = l.getD (i + j) 0 := by
  simp [List.getD_eq_getElem?_getD]
/-- limb i of a number that is shifted to the right -/
theorem shr_digit {x : List Nat} (hx : Lim x) {q r j : Nat} (hr : r < 32) (hj : j + q ≤ x.length) :
    nv x / (BB ^ q * 2 ^ r) / BB ^ j % BB = (x.getD (j + q) 0 + BB * x.getD (j + q + 1) 0) / 2 ^ r % BB := by
  obtain ⟨t, ht⟩ := nv_two_split (x.drop (j + q))
  rw [getD_drop, getD_drop, Nat.add_zero] at ht
  rw [Nat.div_div_eq_div_mul, Nat.mul_right_comm, ← Nat.pow_add, Nat.add_comm q j, ← Nat.div_div_eq_div_mul, ← nv_drop hx hj, ht]
  obtain ⟨m, hm⟩ : ∃ m, BB = 2 ^ r * m := by
    refine ⟨2 ^ (32 - r), ?_⟩
    rw [← Nat.pow_add, show r + (32 - r) = 32 from by omega]; rfl
  have e : BB * BB * t = 2 ^ r * (BB * (m * t)) := by
    conv => lhs; arg 1; arg 1; rw [hm]
    rw [Nat.mul_assoc, Nat.mul_assoc, Nat.mul_left_comm m]
  rw [e, Nat.add_mul_div_left _ _ (Nat.two_pow_pos r), Nat.add_mul_mod_self_left]
/-- the lowest j limbs are shifted -/
structure ShrInv (x L : List Nat) (q r j : Nat) : Prop where
  sum : nv (L.take j) = nv x / (BB ^ q * 2 ^ r) % BB ^ j
theorem ShrInv.start (x L : List Nat) (q r : Nat) : ShrInv x L q r 0 := ⟨by simp [nv, Nat.mod_one]⟩
theorem ShrInv.step {x L : List Nat} {q r j W : Nat} (h : ShrInv x L q r j) (hx : Lim x) (hr : r < 32) (hj : j < L.length) (hl : j + q ≤ x.length) (hW : x.getD (j + q) 0 + BB * x.getD (j + q + 1) 0 = W) :
    ShrInv x (L.set j (W / 2 ^ r % BB)) q r (j + 1) := by
  refine ⟨?_⟩
  rw [nv_take_succ (L.set _ _), take_set, getD_set_same hj, h.sum, Nat.pow_succ, Nat.mod_mul, shr_digit hx hr hl, hW]
theorem ShrInv.done {x L : List Nat} {q r j n : Nat} (h : ShrInv x L q r j) (hx : Lim x) (hn : x.length = n) (hq : q ≤ n) (hL : L.length = j) (hj : j = n - q) : nv L = nv x / (BB ^ q * 2 ^ r) := by
  have h1 := h.sum
  rw [List.take_of_length_le (by omega)] at h1
  rw [h1, Nat.mod_eq_of_lt]
  have h2 := nv_lt hx
  rw [hn, show n = q + j from by omega, Nat.pow_add] at h2
  rw [Nat.div_lt_iff_lt_mul (Nat.mul_pos (Nat.pow_pos BB_pos) (Nat.two_pow_pos r))]
  have h3 : 1 ≤ 2 ^ r := Nat.two_pow_pos r
  calc nv x < BB ^ q * BB ^ j := h2
    _ = BB ^ j * (BB ^ q * 1) := by rw [Nat.mul_one, Nat.mul_comm]
    _ ≤ BB ^ j * (BB ^ q * 2 ^ r) := Nat.mul_le_mul_left _ (Nat.mul_le_mul_left _ h3)
end Go.Proofs.YtgoiechhhnhgaaaDoor
