/- Walks of layer 11: isSide, index and window of a kernel. -/
import Derived.Test.YtlbmllhjmgccaaaW5
import Derived.Test.YtlbmllhjmgccaaaPlain3
namespace Go.Proofs.Ytlbmllhjmgccaaa
open Go.RowKit
set_option linter.unusedVariables false
theorem side_c (n : Int) (w : World) : Calls Try.prog 27 #[.int .i64 n] w fun e w' => e = .returned (.bool (sideB n)) ∧ w = w' := by
  by_cases h1 : 1 ≤ n
  · by_cases h2 : n ≤ 64
    · have hz : Hid (sideB n = true) := Lib.hid (by simp [sideB]; omega)
      go_enter Try.func27, Try.ntmps27
      go_wp2
      go_ret
      exact ⟨ret_bool hz.out.symm, rfl⟩
    · have hz : Hid (sideB n = false) := Lib.hid (by simp [sideB]; omega)
      have hd : decide (n ≤ 64) = false := by simpa using h2
      go_enter Try.func27, Try.ntmps27
      go_wp2
      go_ret
      exact ⟨ret_bool hz.out.symm, rfl⟩
  · have hz : Hid (sideB n = false) := Lib.hid (by simp [sideB]; omega)
    have hd : decide (1 ≤ n) = false := by simpa using h1
    go_enter Try.func27, Try.ntmps27
    go_wp2
    go_ret
    exact ⟨ret_bool hz.out.symm, rfl⟩

def kagg (C H W kh kw st pad : Int) : Array Value := #[.int .i64 C, .int .i64 H, .int .i64 W, .int .i64 kh, .int .i64 kw, .int .i64 st, .int .i64 pad]

set_option maxHeartbeats 400000 in
theorem kindex_c (C H W kh kw st pad ch y x : Int) (w : World) (hc0 : 0 ≤ ch) (hc : ch ≤ 16384) (hH : H ≤ 16384) (hW : W ≤ 16384) :
    Calls Try.prog 29 #[.agg #[.int .i64 C, .int .i64 H, .int .i64 W, .int .i64 kh, .int .i64 kw, .int .i64 st, .int .i64 pad], .int .i64 ch, .int .i64 y, .int .i64 x] w fun e w' => e = .returned (.int .i64 (elemv H W ch y x)) ∧
      w.alloc (.cells #[.int .i64 C, .int .i64 H, .int .i64 W, .int .i64 kh, .int .i64 kw, .int .i64 st, .int .i64 pad] 45) = w' := by
  by_cases h : y < 0 ∨ H ≤ y ∨ x < 0 ∨ W ≤ x
  · have hz := Lib.hid (elemv_out (ch := ch) h)
    by_cases h1 : y < 0
    · clear h
      go_enter Try.func29, Try.ntmps29
      go_wp2
      go_ret
      exact ⟨ret_int hz.out.symm, rfl⟩
    · by_cases h2 : H ≤ y
      · clear h
        go_enter Try.func29, Try.ntmps29
        go_wp2
        go_ret
        exact ⟨ret_int hz.out.symm, rfl⟩
      · by_cases h3 : x < 0
        · clear h
          go_enter Try.func29, Try.ntmps29
          go_wp2
          go_ret
          exact ⟨ret_int hz.out.symm, rfl⟩
        · have h4 : W ≤ x := by omega
          clear h
          go_enter Try.func29, Try.ntmps29
          go_wp2
          go_ret
          exact ⟨ret_int hz.out.symm, rfl⟩
  · have h1 : 0 ≤ y := by omega
    have h2 : y < H := by omega
    have h3 : 0 ≤ x := by omega
    have h4 : x < W := by omega
    clear h
    have hz := Lib.hid (elemv_in (ch := ch) h1 h2 h3 h4)
    have hbd := elem_bd hc0 hc hH hW h1 h2 h3 h4
    go_enter Try.func29, Try.ntmps29
    go_wp2
    go_ret
    exact ⟨ret_int hz.out.symm, rfl⟩
end Go.Proofs.Ytlbmllhjmgccaaa
