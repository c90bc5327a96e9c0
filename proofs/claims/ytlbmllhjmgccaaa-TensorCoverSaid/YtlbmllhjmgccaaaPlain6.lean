/- Plain mathematics of layer 11 (tensor): windows without padding. No program. -/
import Derived.Test.YtlbmllhjmgccaaaPlain5
namespace Go.Proofs.Ytlbmllhjmgccaaa
set_option linter.unusedVariables false
theorem succ_divmod (k d : Nat) (hd : 0 < d) : ((k + 1) % d = k % d + 1 ∧ (k + 1) / d = k / d) ∨ ((k + 1) % d = 0 ∧ (k + 1) / d = k / d + 1 ∧ k % d + 1 = d) := by
  have a := Nat.div_add_mod (k + 1) d
  have b := Nat.div_add_mod k d
  have c := Nat.mod_lt k hd
  have e := Nat.succ_div (a := k) (b := d)
  by_cases h : d ∣ k + 1
  · rw [if_pos h] at e
    right
    have h0 := Nat.mod_eq_zero_of_dvd h
    refine ⟨h0, e, ?_⟩
    rw [e, h0, Nat.mul_add] at a; omega
  · rw [if_neg h] at e
    left
    simp only [Nat.add_zero] at e
    refine ⟨?_, e⟩
    rw [e] at a; omega
/-- the value of an element of a window that lies inside -/
def cval (H W a y0 x0 N q : Nat) : Nat := (N / a * H + (y0 + N % a)) * W + (x0 + q)
theorem cval_step {H W a y0 x0 N : Nat} (ha : 0 < a) (hH : a ≤ H) : N / a * H + (y0 + N % a) + 1 ≤ (N + 1) / a * H + (y0 + (N + 1) % a) := by
  rcases succ_divmod N a ha with ⟨h1, h2⟩ | ⟨h1, h2, h3⟩
  · rw [h1, h2]; omega
  · rw [h1, h2, Nat.succ_mul]; omega
theorem cval_lt {C H W a b y0 x0 N q : Nat} (ha : 0 < a) (hN : N < C * a) (hq : q < b) (hy : y0 + a ≤ H) (hx : x0 + b ≤ W) : cval H W a y0 x0 N q < C * H * W := by
  unfold cval
  have h1 : N / a < C := (Nat.div_lt_iff_lt_mul ha).2 hN
  have h2 := Nat.mod_lt N ha
  have h3 : (N / a + 1) * H ≤ C * H := Nat.mul_le_mul_right H h1
  rw [Nat.succ_mul] at h3
  have h4 : (N / a * H + (y0 + N % a) + 1) * W ≤ C * H * W := Nat.mul_le_mul_right W (by omega)
  rw [Nat.succ_mul] at h4
  omega
theorem cval_mono {H W a b y0 x0 n : Nat} (ha : 0 < a) (hb : 0 < b) (hH : a ≤ H) (hx : x0 + b ≤ W) : cval H W a y0 x0 (n / b) (n % b) < cval H W a y0 x0 ((n + 1) / b) ((n + 1) % b) := by
  unfold cval
  rcases succ_divmod n b hb with ⟨h1, h2⟩ | ⟨h1, h2, h3⟩
  · rw [h1, h2]; omega
  · rw [h1, h2]
    have h4 := Nat.mul_le_mul_right W (cval_step (H := H) (W := W) (y0 := y0) (x0 := x0) (N := n / b) ha hH)
    rw [Nat.succ_mul] at h4
    omega
theorem out_fit {H a s R : Nat} (h : (R : Int) = ((H : Int) + 2 * (0 : Nat) - a) / s + 1) (ha : a ≤ H) (hs : 1 ≤ s) (r : Nat) (hr : r < R) : r * s + a ≤ H := by
  have h1 : R = (H - a) / s + 1 := by
    have : ((H : Int) + 2 * (0 : Nat) - a) = ((H - a : Nat) : Int) := by omega
    rw [this, ← Int.natCast_ediv] at h
    omega
  have h2 : r ≤ (H - a) / s := by omega
  have h3 := Nat.mul_le_mul_right s h2
  have h4 := Nat.div_mul_le_self (H - a) s
  omega
theorem cover_get {C H W a b s R S i n : Nat} (hC : 1 ≤ C) (ha : 1 ≤ a) (hb : 1 ≤ b) (hs : 1 ≤ s) (hS : 1 ≤ S) (hR : (R : Int) = ((H : Int) + 2 * (0 : Nat) - a) / s + 1) (hSS : (S : Int) = ((W : Int) + 2 * (0 : Nat) - b) / s + 1)
    (haH : a ≤ H) (hbW : b ≤ W) (hi : i < R * S) (hn : n < C * (a * b)) :
    ∃ x, (winRows H W s (0 : Nat) a b C S R)[i]? = some x ∧ x.length = C * (a * b) ∧ x[n]? = some ((cval H W a (i / S * s) (i % S * s) (n / b) (n % b) : Nat) : Int) ∧ (∀ k, n = k + 1 → ∃ u : Nat, x[k]? = some (u : Int) ∧ u < cval H W a (i / S * s) (i % S * s) (n / b) (n % b)) ∧
      cval H W a (i / S * s) (i % S * s) (n / b) (n % b) < C * H * W := by
  have hy := out_fit hR haH hs (i / S) ((Nat.div_lt_iff_lt_mul hS).2 hi)
  have hx := out_fit hSS hbW hs (i % S) (Nat.mod_lt i hS)
  have key : ∀ t, t < C * (a * b) → (chans H W ((i / S : Nat) * (s : Int) - (0 : Nat)) ((i % S : Nat) * (s : Int) - (0 : Nat)) a b C)[t]? = some ((cval H W a (i / S * s) (i % S * s) (t / b) (t % b) : Nat) : Int) := by
    intro t ht
    rw [chans_get _ _ _ _ _ _ _ _ ha hb ht]
    have hab : 0 < a * b := Nat.mul_pos ha hb
    have e1 : t / (a * b) = t / b / a := by rw [Nat.div_div_eq_div_mul, Nat.mul_comm b a]
    have e2 : t % (a * b) / b = t / b % a := Nat.mod_mul_left_div_self t b a
    have hp := Nat.mod_lt (t / b) ha
    have hq := Nat.mod_lt t hb
    rw [e1, e2, show ((i / S : Nat) : Int) * (s : Int) - ((0 : Nat) : Int) = ((i / S * s : Nat) : Int) by rw [Int.natCast_mul]; omega, show ((i % S : Nat) : Int) * (s : Int) - ((0 : Nat) : Int) = ((i % S * s : Nat) : Int) by rw [Int.natCast_mul]; omega]
    unfold cval
    generalize i / S * s = y0 at hy ⊢
    generalize i % S * s = x0 at hx ⊢
    generalize t / b % a = p at hp ⊢
    generalize t % b = q at hq ⊢
    rw [elemv_in (by omega) (by omega) (by omega) (by omega)]
    rw [Int.natCast_add, Int.natCast_mul, Int.natCast_add, Int.natCast_mul, Int.natCast_add, Int.natCast_add]
  refine ⟨_, winRows_get _ _ _ _ _ _ _ _ _ _ hS hi, len_chans .., key n hn, ?_, ?_⟩
  · intro k hk
    subst hk
    exact ⟨_, key k (by omega), cval_mono ha hb haH hx⟩
  · refine cval_lt ha ?_ (Nat.mod_lt n hb) hy hx
    rw [Nat.div_lt_iff_lt_mul hb, Nat.mul_assoc]; exact hn
theorem winErr_vals (l : List Int) (kh kw st pad : Int) : winErr l kh kw st pad = 0 ∨ winErr l kh kw st pad = 1 ∨ winErr l kh kw st pad = 7 ∨ winErr l kh kw st pad = 8 := by
  unfold winErr; split
  · simp
  · split
    · simp
    · split <;> simp
theorem szv_three {C H W : Nat} (h : okB [(C : Int), H, W] = true) : szv [(C : Int), H, W] = ((C * H * W : Nat) : Int) := by
  rw [szv_pr h]; simp [pr]
theorem one_err {C H W : Nat} (h : okB [(C : Int), H, W] = true) : winErr [(C : Int), H, W] 1 1 1 0 = 0 := by
  have h0 := h
  have hb := szv_bd [(C : Int), H, W]
  rw [szv_three h] at hb
  have b1 := ok_pos h C (by simp)
  have b2 := ok_pos h H (by simp)
  have b3 := ok_pos h W (by simp)
  unfold winErr
  rw [if_neg (by simp [winArg, h, sideB]), if_neg (by simp; omega)]
  simp only [List.getD_cons_succ, List.getD_cons_zero, outs]
  rw [show ((H : Int) + 2 * 0 - 1) / 1 + 1 = H by omega, show ((W : Int) + 2 * 0 - 1) / 1 + 1 = W by omega, if_neg]
  have : (H : Int) * W * C * 1 * 1 = ((C * H * W : Nat) : Int) := by
    push_cast; rw [Int.mul_one, Int.mul_one, Int.mul_comm ((H : Int) * W) C, Int.mul_assoc]
  rw [this]; omega
theorem one_val {H W i ch : Nat} (hW : 1 ≤ W) : cval H W 1 (i / W * 1) (i % W * 1) (ch / 1) (ch % 1) = ch * (H * W) + i := by
  unfold cval
  have h := Nat.div_add_mod i W
  simp only [Nat.div_one, Nat.mod_one, Nat.mul_one, Nat.add_zero]
  rw [Nat.add_mul, Nat.mul_assoc, Nat.mul_comm (i / W) W]
  omega
theorem one_get {C H W i ch : Nat} (hC : 1 ≤ C) (hH : 1 ≤ H) (hW : 1 ≤ W) (hi : i < H * W) (hc : ch < C) :
    ∃ x, (winRows H W (1 : Nat) (0 : Nat) 1 1 C W H)[i]? = some x ∧ x.length = C ∧ x[ch]? = some ((ch * (H * W) + i : Nat) : Int) := by
  obtain ⟨x, h1, h2, h3, _, _⟩ := cover_get (C := C) (H := H) (W := W) (a := 1) (b := 1) (s := 1) (R := H) (S := W) (i := i) (n := ch) hC (by omega) (by omega) (by omega) hW (by omega) (by omega) hH hW hi (by omega)
  rw [one_val hW] at h3
  exact ⟨x, h1, by omega, h3⟩
end Go.Proofs.Ytlbmllhjmgccaaa
