/- Plain mathematics of layer 11 (tensor): what lies where in a list of windows. No program. -/
import Derived.Test.YtlbmllhjmgccaaaPlain4
namespace Go.Proofs.Ytlbmllhjmgccaaa
set_option linter.unusedVariables false
theorem flat_get {α : Type} (f : Nat → List α) (m : Nat) (hm : 0 < m) (h : ∀ i, (f i).length = m) (n t : Nat) (ht : t < n * m) : ((List.range n).flatMap f)[t]? = (f (t / m))[t % m]? := by
  induction n with
  | zero => omega
  | succ n ih =>
    rw [List.range_succ, List.flatMap_append]
    have hl := len_flat f m h n
    by_cases hlt : t < n * m
    · rw [List.getElem?_append_left (by rw [hl]; exact hlt), ih hlt]
    · rw [List.getElem?_append_right (by rw [hl]; omega), hl]
      have e : t = n * m + (t - n * m) := by omega
      have h1 : t / m = n := by
        rw [Nat.succ_mul] at ht
        exact Nat.div_eq_of_lt_le (by omega) (by rw [Nat.succ_mul]; omega)
      have h2 : t % m = t - n * m := by
        have := Nat.div_add_mod t m; rw [h1, Nat.mul_comm] at this; omega
      rw [h1, h2]; simp
theorem winRows_get (H W st pad : Int) (kh kw C S R t : Nat) (hS : 0 < S) (ht : t < R * S) : (winRows H W st pad kh kw C S R)[t]? = some (chans H W ((t / S : Nat) * st - pad) ((t % S : Nat) * st - pad) kh kw C) := by
  unfold winRows
  rw [flat_get _ S hS (fun _ => len_winRow ..) R t ht]
  simp [winRow, Nat.mod_lt t hS]
theorem rowsI_get (H W : Int) (ch : Nat) (y x : Int) (kw n t : Nat) (hw : 0 < kw) (ht : t < n * kw) : (rowsI H W ch y x kw n)[t]? = some (elemv H W ch (y + (t / kw : Nat)) (x + (t % kw : Nat))) := by
  unfold rowsI
  rw [flat_get _ kw hw (fun _ => len_rowJ ..) n t ht]
  simp [rowJ, Nat.mod_lt t hw]
theorem chans_get (H W y x : Int) (kh kw n t : Nat) (hh : 0 < kh) (hw : 0 < kw) (ht : t < n * (kh * kw)) :
    (chans H W y x kh kw n)[t]? = some (elemv H W (t / (kh * kw) : Nat) (y + (t % (kh * kw) / kw : Nat)) (x + (t % kw : Nat))) := by
  unfold chans
  have hm : 0 < kh * kw := Nat.mul_pos hh hw
  rw [flat_get _ (kh * kw) hm (fun _ => len_rowsI ..) n t ht]
  rw [rowsI_get _ _ _ _ _ _ _ _ hw (Nat.mod_lt _ hm)]
  rw [Nat.mod_mul_left_mod]
/-- the columns of a window but the first one are those of the next window but the last one -/
theorem next_ok (H W pad : Int) (kh kw C S R i n : Nat) (hS : 0 < S) (hh : 0 < kh) (hw : 0 < kw) (hi : i + 1 < R * S) (hm : (i + 1) % S ≠ 0) (hn : n < C * (kh * kw)) (hn2 : n % kw ≠ 0) :
    ∃ x y v, (winRows H W 1 pad kh kw C S R)[i]? = some x ∧ (winRows H W 1 pad kh kw C S R)[i + 1]? = some y ∧ x[n]? = some v ∧ y[n - 1]? = some v := by
  refine ⟨_, _, _, winRows_get _ _ _ _ _ _ _ _ _ _ hS (by omega), winRows_get _ _ _ _ _ _ _ _ _ _ hS hi, chans_get _ _ _ _ _ _ _ _ hh hw hn, ?_⟩
  rw [chans_get _ _ _ _ _ _ _ _ hh hw (by omega)]
  have d1 : (i + 1) / S = i / S ∧ (i + 1) % S = i % S + 1 := by
    have a := Nat.div_add_mod (i + 1) S
    have b := Nat.div_add_mod i S
    have c := Nat.mod_lt i hS
    have d := Nat.mod_lt (i + 1) hS
    have e := Nat.succ_div (a := i) (b := S)
    by_cases hd : S ∣ i + 1
    · exact absurd (Nat.mod_eq_zero_of_dvd hd) hm
    · rw [if_neg hd] at e
      simp only [Nat.add_zero] at e
      refine ⟨e, ?_⟩
      rw [e] at a; omega
  have hnpos : 0 < n := by
    rcases Nat.eq_zero_or_pos n with h | h
    · subst h; simp at hn2
    · exact h
  obtain ⟨k, rfl⟩ : ∃ k, n = k + 1 := ⟨n - 1, by omega⟩
  have hmk : 0 < kh * kw := Nat.mul_pos hh hw
  have step : ∀ m, 0 < m → m ∣ m → kw ∣ m → k / m = (k + 1) / m ∧ (k + 1) % m = k % m + 1 := by
    intro m hmp _ hkm
    have hnd : ¬ m ∣ k + 1 := fun hd => hn2 (Nat.mod_eq_zero_of_dvd (Nat.dvd_trans hkm hd))
    have e := Nat.succ_div (a := k) (b := m)
    rw [if_neg hnd] at e
    simp only [Nat.add_zero] at e
    have a := Nat.div_add_mod (k + 1) m
    have b := Nat.div_add_mod k m
    refine ⟨e.symm, ?_⟩
    rw [e] at a; omega
  obtain ⟨s1, s2⟩ := step (kh * kw) hmk (Nat.dvd_refl _) (Nat.dvd_mul_left _ _)
  obtain ⟨s3, s4⟩ := step kw hw (Nat.dvd_refl _) (Nat.dvd_refl _)
  have s5 : k % (kh * kw) / kw = (k + 1) % (kh * kw) / kw := by
    rw [s2]
    have e := Nat.succ_div (a := k % (kh * kw)) (b := kw)
    have hnd : ¬ kw ∣ k % (kh * kw) + 1 := by
      rw [← s2]
      intro hd
      have h3 : (k + 1) % kw = 0 := by rw [← Nat.mod_mul_left_mod (k + 1) kh kw]; exact Nat.mod_eq_zero_of_dvd hd
      exact hn2 h3
    rw [if_neg hnd] at e
    simpa using e.symm
  rw [Nat.add_sub_cancel, d1.1, d1.2, s1, s5, s4]
  congr 2
  push_cast
  omega

/-- windows that are listed, in natural numbers -/
theorem win_nat {l : List Int} {kh kw st pad : Int} (h : winErr l kh kw st pad = 0) :
    ∃ C H W a b s p R S : Nat, l = [(C : Int), (H : Int), (W : Int)] ∧ kh = a ∧ kw = b ∧ st = s ∧ pad = p ∧ winRes l kh kw st pad = (winRows H W s p a b C S R, (R : Int), (S : Int), 0) ∧
      1 ≤ C ∧ C ≤ 16384 ∧ 1 ≤ H ∧ H ≤ 16384 ∧ 1 ≤ W ∧ W ≤ 16384 ∧ 1 ≤ a ∧ a ≤ 64 ∧ 1 ≤ b ∧ b ≤ 64 ∧ 1 ≤ s ∧ s ≤ 64 ∧ p < a ∧ p < b ∧ 1 ≤ R ∧ R ≤ 16600 ∧ 1 ≤ S ∧ S ≤ 16600 ∧ okB l = true ∧
      (R : Int) = (H + 2 * p - a) / s + 1 ∧ (S : Int) = (W + 2 * p - b) / s + 1 := by
  obtain ⟨hb, C, H, W, rfl, hs1, hs2⟩ := winErr_zero h
  obtain ⟨h1, h2, h3, h4, h5, h6, h7⟩ := winArg_true hb
  have k1 := side_bd h2
  have k2 := side_bd h3
  have k3 := side_bd h4
  have b1 := ok_pos h1 C (by simp)
  have b2 := ok_pos h1 H (by simp)
  have b3 := ok_pos h1 W (by simp)
  obtain ⟨C, rfl⟩ := Int.eq_ofNat_of_zero_le (show 0 ≤ C by omega)
  obtain ⟨H, rfl⟩ := Int.eq_ofNat_of_zero_le (show 0 ≤ H by omega)
  obtain ⟨W, rfl⟩ := Int.eq_ofNat_of_zero_le (show 0 ≤ W by omega)
  obtain ⟨kh, rfl⟩ := Int.eq_ofNat_of_zero_le (show 0 ≤ kh by omega)
  obtain ⟨kw, rfl⟩ := Int.eq_ofNat_of_zero_le (show 0 ≤ kw by omega)
  obtain ⟨st, rfl⟩ := Int.eq_ofNat_of_zero_le (show 0 ≤ st by omega)
  obtain ⟨pad, rfl⟩ := Int.eq_ofNat_of_zero_le h5
  have o1 := outs_bd (H := H) (k := kh) (st := st) (pad := pad) b2.1 b2.2 k1.1 k1.2 k3.1 (by omega) h6 (by omega)
  have o2 := outs_bd (H := W) (k := kw) (st := st) (pad := pad) b3.1 b3.2 k2.1 k2.2 k3.1 (by omega) h7 (by omega)
  refine ⟨C, H, W, kh, kw, st, pad, (outs H kh st pad).toNat, (outs W kw st pad).toNat, rfl, rfl, rfl, rfl, rfl, ?_, by omega, by omega, by omega, by omega, by omega, by omega, by omega, by omega, by omega, by omega, by omega, by omega, by omega, by omega, by omega, by omega, by omega, by omega, h1, ?_, ?_⟩
  · unfold winRes; rw [if_pos h]
    unfold wins
    simp only [List.getD_cons_succ, List.getD_cons_zero, Int.toNat_natCast]
    rw [Int.toNat_of_nonneg (by omega), Int.toNat_of_nonneg (by omega)]
  · rw [Int.toNat_of_nonneg (by omega)]; rfl
  · rw [Int.toNat_of_nonneg (by omega)]; rfl
theorem winRes_err {l : List Int} {kh kw st pad : Int} (h : winErr l kh kw st pad ≠ 0) : winRes l kh kw st pad = ([], 0, 0, winErr l kh kw st pad) := by unfold winRes; rw [if_neg h]
end Go.Proofs.Ytlbmllhjmgccaaa
