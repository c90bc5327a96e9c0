/- Plain mathematics of layer 11 (tensor): the reference's windows. No program. -/
import Derived.Test.YtlbmllhjmgccaaaPlain3
namespace Go.Proofs.Ytlbmllhjmgccaaa
set_option linter.unusedVariables false
theorem side_false {n : Int} (h : sideB n = false) : n < 1 ∨ 64 < n := by simp [sideB] at h; omega
theorem rwinArg_cases {l : List Int} {kh kw st pad : Int} (h : winArg l kh kw st pad = false) :
    okB l = false ∨ (okB l = true ∧ kh < 1) ∨ (okB l = true ∧ 1 ≤ kh ∧ 64 < kh) ∨ (okB l = true ∧ 1 ≤ kh ∧ kh ≤ 64 ∧ kw < 1) ∨ (okB l = true ∧ 1 ≤ kh ∧ kh ≤ 64 ∧ 1 ≤ kw ∧ 64 < kw) ∨
    (okB l = true ∧ 1 ≤ kh ∧ kh ≤ 64 ∧ 1 ≤ kw ∧ kw ≤ 64 ∧ st < 1) ∨ (okB l = true ∧ 1 ≤ kh ∧ kh ≤ 64 ∧ 1 ≤ kw ∧ kw ≤ 64 ∧ 1 ≤ st ∧ 64 < st) ∨
    (okB l = true ∧ 1 ≤ kh ∧ kh ≤ 64 ∧ 1 ≤ kw ∧ kw ≤ 64 ∧ 1 ≤ st ∧ st ≤ 64 ∧ pad < 0) ∨ (okB l = true ∧ 1 ≤ kh ∧ kh ≤ 64 ∧ 1 ≤ kw ∧ kw ≤ 64 ∧ 1 ≤ st ∧ st ≤ 64 ∧ 0 ≤ pad ∧ kh ≤ pad) ∨
    (okB l = true ∧ 1 ≤ kh ∧ kh ≤ 64 ∧ 1 ≤ kw ∧ kw ≤ 64 ∧ 1 ≤ st ∧ st ≤ 64 ∧ 0 ≤ pad ∧ pad < kh ∧ kw ≤ pad) := by
  cases h1 : okB l
  · exact .inl rfl
  by_cases q1 : kh < 1
  · exact .inr (.inl ⟨by rfl, q1⟩)
  by_cases q2 : 64 < kh
  · exact .inr (.inr (.inl ⟨by rfl, by omega, q2⟩))
  by_cases q3 : kw < 1
  · exact .inr (.inr (.inr (.inl ⟨by rfl, by omega, by omega, q3⟩)))
  by_cases q4 : 64 < kw
  · exact .inr (.inr (.inr (.inr (.inl ⟨by rfl, by omega, by omega, by omega, q4⟩))))
  by_cases q5 : st < 1
  · exact .inr (.inr (.inr (.inr (.inr (.inl ⟨by rfl, by omega, by omega, by omega, by omega, q5⟩)))))
  by_cases q6 : 64 < st
  · exact .inr (.inr (.inr (.inr (.inr (.inr (.inl ⟨by rfl, by omega, by omega, by omega, by omega, by omega, q6⟩))))))
  by_cases q7 : pad < 0
  · exact .inr (.inr (.inr (.inr (.inr (.inr (.inr (.inl ⟨by rfl, by omega, by omega, by omega, by omega, by omega, by omega, q7⟩)))))))
  by_cases q8 : kh ≤ pad
  · exact .inr (.inr (.inr (.inr (.inr (.inr (.inr (.inr (.inl ⟨by rfl, by omega, by omega, by omega, by omega, by omega, by omega, by omega, q8⟩))))))))
  by_cases q9 : kw ≤ pad
  · exact .inr (.inr (.inr (.inr (.inr (.inr (.inr (.inr (.inr ⟨by rfl, by omega, by omega, by omega, by omega, by omega, by omega, by omega, by omega, q9⟩))))))))
  exfalso
  unfold winArg sideB at h
  rw [h1, decide_eq_true (show 1 ≤ kh ∧ kh ≤ 64 by omega), decide_eq_true (show 1 ≤ kw ∧ kw ≤ 64 by omega), decide_eq_true (show 1 ≤ st ∧ st ≤ 64 by omega), decide_eq_true (show 0 ≤ pad by omega), decide_eq_true (show pad < kh by omega), decide_eq_true (show pad < kw by omega)] at h
  simp at h
theorem ix_three {C H W ch y x : Int} (hok : okB [C, H, W] = true) (h0 : 0 ≤ ch) (h1 : ch < C) :
    ixv [C, H, W] [ch, y, x] = if y < 0 ∨ H ≤ y ∨ x < 0 ∨ W ≤ x then (0, 2) else (elemv H W ch y x, 0) := by
  unfold ixv; rw [if_pos ⟨hok, rfl⟩]
  simp only [ixgo]
  rw [if_neg (by omega)]
  by_cases hy : y < 0 ∨ H ≤ y
  · rw [if_pos hy, if_pos (by omega)]
  · rw [if_neg hy]
    by_cases hx : x < 0 ∨ W ≤ x
    · rw [if_pos hx, if_pos (by omega)]
    · rw [if_neg hx, if_neg (by omega), elemv_in (by omega) (by omega) (by omega) (by omega)]; simp
theorem elem_shift {H W ch : Int} {rs cs pad i j : Int} : elemv H W ch (rs + i - pad) (cs + j - pad) = elemv H W ch (rs - pad + i) (cs - pad + j) := by
  rw [show rs + i - pad = rs - pad + i by omega, show cs + j - pad = cs - pad + j by omega]

theorem winErr_zero {l : List Int} {kh kw st pad : Int} (h : winErr l kh kw st pad = 0) : winArg l kh kw st pad = true ∧ ∃ C H W, l = [C, H, W] ∧ kh ≤ H + 2 * pad ∧ kw ≤ W + 2 * pad := by
  unfold winErr at h
  split at h
  · omega
  · split at h
    · omega
    · refine ⟨by simpa using ‹¬winArg l kh kw st pad = false›, ?_⟩
      rename_i h2
      obtain ⟨C, H, W, rfl⟩ := three (l := l) (by omega)
      refine ⟨C, H, W, rfl, ?_⟩
      simp at h2
      omega
theorem wins_mem {l : List Int} {kh kw st pad : Int} {x : List Int} (h : x ∈ (winRes l kh kw st pad).1) :
    ∃ (H W y x' : Int) (kh' kw' C : Nat), x = chans H W y x' kh' kw' C ∧ H ≤ 16384 ∧ W ≤ 16384 ∧ C ≤ 16384 ∧ kh' ≤ 64 ∧ kw' ≤ 64 := by
  unfold winRes at h
  split at h
  · rename_i he
    obtain ⟨ha, C, H, W, rfl, _, _⟩ := winErr_zero he
    obtain ⟨h1, h2, h3, h4, h5, h6, h7⟩ := winArg_true ha
    have k1 := side_bd h2
    have k2 := side_bd h3
    have b1 := ok_pos h1 C (by simp)
    have b2 := ok_pos h1 H (by simp)
    have b3 := ok_pos h1 W (by simp)
    simp only [wins, winRows, winRow, List.mem_flatMap, List.mem_map] at h
    obtain ⟨r, _, c, _, rfl⟩ := h
    refine ⟨_, _, _, _, _, _, _, rfl, ?_, ?_, ?_, ?_, ?_⟩ <;> simp <;> omega
  · simp at h
theorem wins_bd {l : List Int} {kh kw st pad : Int} {x : List Int} (h : x ∈ (winRes l kh kw st pad).1) : x.length ≤ 67108864 ∧ ∀ n ∈ x, -9223372036854775808 ≤ n ∧ n ≤ 9223372036854775807 := by
  obtain ⟨H, W, y, x', kh', kw', C, rfl, h1, h2, h3, h4, h5⟩ := wins_mem h
  constructor
  · rw [len_chans]
    have a := Nat.mul_le_mul h4 h5
    have b := Nat.mul_le_mul h3 a
    omega
  · intro n hn
    simp only [chans, rowsI, rowJ, List.mem_flatMap, List.mem_map, List.mem_range] at hn
    obtain ⟨ch, hch, i, _, j, _, rfl⟩ := hn
    have := elemv_i64 (H := H) (W := W) (ch := ch) (y := y + i) (x := x' + j) (by omega) (by omega) h1 h2
    omega
end Go.Proofs.Ytlbmllhjmgccaaa
