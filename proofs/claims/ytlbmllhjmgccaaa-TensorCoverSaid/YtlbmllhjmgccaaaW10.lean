/- Walks of layer 11: Windows, whatever the arguments; the reference's Windows, where the windows are refused. -/
import Derived.Test.YtlbmllhjmgccaaaW9
import Derived.Test.YtlbmllhjmgccaaaPlain4
namespace Go.Proofs.Ytlbmllhjmgccaaa
open Go.RowKit
set_option linter.unusedVariables false
theorem winErr_bad {l : List Int} {kh kw st pad : Int} (h : winArg l kh kw st pad = false) : winErr l kh kw st pad ≠ 0 := by unfold winErr; rw [if_pos h]; omega
theorem winErr_shape {l : List Int} {kh kw st pad : Int} (h : winArg l kh kw st pad = true) (hs : l.length ≠ 3 ∨ l.getD 1 0 + 2 * pad < kh ∨ l.getD 2 0 + 2 * pad < kw) : winErr l kh kw st pad ≠ 0 := by
  unfold winErr; rw [if_neg (by rw [h]; simp), if_pos hs]; omega
theorem wsBad_post {l : List Int} {kh kw st pad : Int} {w : World} (hne : winErr l kh kw st pad ≠ 0) (e : Ending) (w' : World) (h : WsBad l kh kw st pad w e w') : WsPost l kh kw st pad w e w' := by
  obtain ⟨rfl, rfl⟩ := h
  have hr : winRes l kh kw st pad = ([], 0, 0, winErr l kh kw st pad) := by unfold winRes; rw [if_neg hne]
  exact ⟨.slice none 0 0, [], by rw [hr], World.ownsRow_nil _ _ _ _, by rw [hr]; exact Vals.nil _ _, Below.refl _ _⟩
theorem windows_c (a : Option Addr) (len cap : Nat) (l : List Int) (kh kw st pad : Int) (w : World) (h : Sl w a len l) :
    Calls Try.prog 23 #[.slice a len cap, .int .i64 kh, .int .i64 kw, .int .i64 st, .int .i64 pad] w (WsPost l kh kw st pad w) := by
  by_cases hb : winArg l kh kw st pad = false
  · exact (windows_arg a len cap l kh kw st pad w h hb).mono (wsBad_post (winErr_bad hb))
  · have hb : winArg l kh kw st pad = true := by simpa using hb
    by_cases hs : l.length ≠ 3 ∨ l.getD 1 0 + 2 * pad < kh ∨ l.getD 2 0 + 2 * pad < kw
    · exact (windows_shape a len cap l kh kw st pad w h hb hs).mono (wsBad_post (winErr_shape hb hs))
    · obtain ⟨C, H, W, rfl⟩ := three (l := l) (by omega)
      obtain ⟨h1, h2, h3, h4, h5, h6, h7⟩ := winArg_true hb
      have k1 := side_bd h2
      have k2 := side_bd h3
      have k3 := side_bd h4
      have b1 := ok_pos h1 C (by simp)
      have b2 := ok_pos h1 H (by simp)
      have b3 := ok_pos h1 W (by simp)
      obtain ⟨rfl, b, off, rfl, _, _, _⟩ := h.three
      obtain ⟨C, rfl⟩ := Int.eq_ofNat_of_zero_le (show 0 ≤ C by omega)
      obtain ⟨H, rfl⟩ := Int.eq_ofNat_of_zero_le (show 0 ≤ H by omega)
      obtain ⟨W, rfl⟩ := Int.eq_ofNat_of_zero_le (show 0 ≤ W by omega)
      obtain ⟨kh, rfl⟩ := Int.eq_ofNat_of_zero_le (show 0 ≤ kh by omega)
      obtain ⟨kw, rfl⟩ := Int.eq_ofNat_of_zero_le (show 0 ≤ kw by omega)
      obtain ⟨st, rfl⟩ := Int.eq_ofNat_of_zero_le (show 0 ≤ st by omega)
      obtain ⟨pad, rfl⟩ := Int.eq_ofNat_of_zero_le h5
      simp at hs
      exact windows_ok b off cap C H W kh kw st pad w h hb (by omega) (by omega)

set_option maxHeartbeats 3200000 in
set_option maxRecDepth 100000 in
theorem rwindows_arg (a : Option Addr) (len cap : Nat) (l : List Int) (kh kw st pad : Int) (w : World) (h : Sl w a len l) (hb : winArg l kh kw st pad = false) :
    Calls Try.prog 24 #[.slice a len cap, .int .i64 kh, .int .i64 kw, .int .i64 st, .int .i64 pad] w (WsBad l kh kw st pad w) := by
  have hz : Hid (winErr l kh kw st pad = 1) := Lib.hid (by unfold winErr; rw [if_pos hb])
  have fin : ∀ (e : Ending) w', (e = Ending.returned (.tuple #[.slice none 0 0, .int .i64 0, .int .i64 0, .int .i64 1]) ∧ w = w') → WsBad l kh kw st pad w e w' := by
    rintro e w' ⟨rfl, rfl⟩; exact ⟨by rw [hz.out], rfl⟩
  refine Calls.mono ?_ fin
  clear fin
  have H := Lib.hid h; clear h
  rcases rwinArg_cases hb with h1 | ⟨h1, h2⟩ | ⟨h1, h2, h3⟩ | ⟨h1, h2, h3, h4⟩ | ⟨h1, h2, h3, h4, h5⟩ | ⟨h1, h2, h3, h4, h5, h6⟩ | ⟨h1, h2, h3, h4, h5, h6, h7⟩ | ⟨h1, h2, h3, h4, h5, h6, h7, h8⟩ | ⟨h1, h2, h3, h4, h5, h6, h7, h8, h9⟩ | ⟨h1, h2, h3, h4, h5, h6, h7, h8, h9, h10⟩
  all_goals
    clear hb
    go_enter Try.func24, Try.ntmps24
    go_wp2_with (go_at_call 13; refine (rvalid_c _ _ _ l _ H.out).mono ?_; rintro e w' ⟨rfl, rfl⟩)
    refine bodyPost_ret (results_tmp4 rfl _ _ _) rfl ?_
    exact ⟨rfl, rfl⟩

set_option maxHeartbeats 1600000 in
set_option maxRecDepth 100000 in
theorem rwindows_shape (a : Option Addr) (len cap : Nat) (l : List Int) (kh kw st pad : Int) (w : World) (h : Sl w a len l) (hb : winArg l kh kw st pad = true)
    (hs : l.length ≠ 3 ∨ l.getD 1 0 + 2 * pad < kh ∨ l.getD 2 0 + 2 * pad < kw) :
    Calls Try.prog 24 #[.slice a len cap, .int .i64 kh, .int .i64 kw, .int .i64 st, .int .i64 pad] w (WsBad l kh kw st pad w) := by
  have hz : Hid (winErr l kh kw st pad = 7) := Lib.hid (by unfold winErr; rw [if_neg (by rw [hb]; simp), if_pos hs])
  have fin : ∀ (e : Ending) w', (e = Ending.returned (.tuple #[.slice none 0 0, .int .i64 0, .int .i64 0, .int .i64 7]) ∧ w = w') → WsBad l kh kw st pad w e w' := by
    rintro e w' ⟨rfl, rfl⟩; exact ⟨by rw [hz.out], rfl⟩
  refine Calls.mono ?_ fin
  clear fin hz
  obtain ⟨h1, h2, h3, h4, h5, h6, h7⟩ := winArg_true hb
  have k1 := side_bd h2
  have k2 := side_bd h3
  have k3 := side_bd h4
  clear hb h2 h3 h4
  by_cases hl : l.length = 3
  · obtain ⟨C, D, E, rfl⟩ := three hl
    have b1 := ok_pos h1 C (by simp)
    have b2 := ok_pos h1 D (by simp)
    have b3 := ok_pos h1 E (by simp)
    obtain ⟨rfl, b, off, rfl, c0, c1, c2⟩ := h.three
    have H := Lib.hid h; clear h
    simp at hs
    by_cases hs1 : D + 2 * pad < kh
    · clear hs hl
      go_enter Try.func24, Try.ntmps24
      go_wp2_with (go_at_call 13; refine (rvalid_c _ _ _ _ _ H.out).mono ?_; rintro e w' ⟨rfl, rfl⟩)
      refine bodyPost_ret (results_tmp4 rfl _ _ _) rfl ?_
      exact ⟨rfl, rfl⟩
    · have hs2 : E + 2 * pad < kw := by omega
      clear hs hl
      go_enter Try.func24, Try.ntmps24
      go_wp2_with (go_at_call 13; refine (rvalid_c _ _ _ _ _ H.out).mono ?_; rintro e w' ⟨rfl, rfl⟩)
      refine bodyPost_ret (results_tmp4 rfl _ _ _) rfl ?_
      exact ⟨rfl, rfl⟩
  · have hne : ((len : Int) != 3) = true := by rw [bne_iff_ne]; have := h.1; omega
    have H := Lib.hid h; clear h
    clear hs hl
    go_enter Try.func24, Try.ntmps24
    go_wp2_with (go_at_call 13; refine (rvalid_c _ _ _ l _ H.out).mono ?_; rintro e w' ⟨rfl, rfl⟩)
    refine bodyPost_ret (results_tmp4 rfl _ _ _) rfl ?_
    exact ⟨rfl, rfl⟩
end Go.Proofs.Ytlbmllhjmgccaaa
