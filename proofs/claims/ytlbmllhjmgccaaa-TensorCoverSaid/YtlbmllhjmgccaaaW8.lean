/- Walks of layer 11: Windows. -/
import Derived.Test.YtlbmllhjmgccaaaW7
import Derived.BigRegion
namespace Go.Proofs.Ytlbmllhjmgccaaa
open Go.RowKit
set_option linter.unusedVariables false
theorem Try.info22 : (Try.prog.info? 22).map (fun i => (i.zero, i.size, i.bytes)) = some (some (.slice none 0 0), 1, 24) := by kernel_rfl

theorem results_tmp4 {fn : Func} {t u v x : Tmp} (h : fn.results = #[.tmp t, .tmp u, .tmp v, .tmp x]) (tmps : Array Value) (P : Program) (w : World) :
    (results fn tmps).run P w = .ok (.tuple #[tmps.getD t undef, tmps.getD u undef, tmps.getD v undef, tmps.getD x undef]) w := by
  simp [results, h]

/-- the windows were refused -/
def WsBad (l : List Int) (kh kw st pad : Int) (w : World) (e : Ending) (w' : World) : Prop :=
  e = Ending.returned (.tuple #[.slice none 0 0, .int .i64 0, .int .i64 0, .int .i64 (winErr l kh kw st pad)]) ∧ w = w'

set_option maxHeartbeats 1600000 in
theorem windows_arg (a : Option Addr) (len cap : Nat) (l : List Int) (kh kw st pad : Int) (w : World) (h : Sl w a len l) (hb : winArg l kh kw st pad = false) :
    Calls Try.prog 23 #[.slice a len cap, .int .i64 kh, .int .i64 kw, .int .i64 st, .int .i64 pad] w (WsBad l kh kw st pad w) := by
  have hz : Hid (winErr l kh kw st pad = 1) := Lib.hid (by unfold winErr; rw [if_pos hb])
  have fin : ∀ (e : Ending) w', (e = Ending.returned (.tuple #[.slice none 0 0, .int .i64 0, .int .i64 0, .int .i64 1]) ∧ w = w') → WsBad l kh kw st pad w e w' := by
    rintro e w' ⟨rfl, rfl⟩; exact ⟨by rw [hz.out], rfl⟩
  refine Calls.mono ?_ fin
  clear fin
  have H := Lib.hid h; clear h
  rcases winArg_cases hb with h1 | ⟨h1, h2⟩ | ⟨h1, h2, h3⟩ | ⟨h1, h2, h3, h4⟩ | ⟨h1, h2, h3, h4, h5⟩ | ⟨h1, h2, h3, h4, h5, h6⟩ | ⟨h1, h2, h3, h4, h5, h6, h7⟩
  all_goals
    clear hb
    go_enter Try.func23, Try.ntmps23
    go_wp2_with (first | (go_at_call 12; refine (valid_c _ _ _ l _ H.out).mono ?_; rintro e w' ⟨rfl, rfl⟩) | (go_at_call 27; refine (side_c _ _).mono ?_; rintro e w' ⟨rfl, rfl⟩))
    refine bodyPost_ret (results_tmp4 rfl _ _ _) rfl ?_
    exact ⟨rfl, rfl⟩

theorem Sl.three {w : World} {a : Option Addr} {len : Nat} {x y z : Int} (h : Sl w a len [x, y, z]) : len = 3 ∧ ∃ b off, a = some ⟨b, off, none⟩ ∧ w.cell? ⟨b, off, none⟩ = some (.int .i64 x) ∧ w.cell? ⟨b, off + 1, none⟩ = some (.int .i64 y) ∧ w.cell? ⟨b, off + 2, none⟩ = some (.int .i64 z) := by
  obtain ⟨h1, h2, h3, h4⟩ := h
  simp at h1
  subst h1
  refine ⟨rfl, ?_⟩
  rcases h4 with h4 | ⟨b, off, e, h4⟩
  · omega
  · exact ⟨b, off, e, by simpa using h4 0 (by omega), by simpa using h4 1 (by omega), by simpa using h4 2 (by omega)⟩

set_option maxHeartbeats 1600000 in
theorem windows_shape (a : Option Addr) (len cap : Nat) (l : List Int) (kh kw st pad : Int) (w : World) (h : Sl w a len l) (hb : winArg l kh kw st pad = true)
    (hs : l.length ≠ 3 ∨ l.getD 1 0 + 2 * pad < kh ∨ l.getD 2 0 + 2 * pad < kw) :
    Calls Try.prog 23 #[.slice a len cap, .int .i64 kh, .int .i64 kw, .int .i64 st, .int .i64 pad] w (WsBad l kh kw st pad w) := by
  have hz : Hid (winErr l kh kw st pad = 7) := Lib.hid (by unfold winErr; rw [if_neg (by rw [hb]; simp), if_pos hs])
  have fin : ∀ (e : Ending) w', (e = Ending.returned (.tuple #[.slice none 0 0, .int .i64 0, .int .i64 0, .int .i64 7]) ∧ w = w') → WsBad l kh kw st pad w e w' := by
    rintro e w' ⟨rfl, rfl⟩; exact ⟨by rw [hz.out], rfl⟩
  refine Calls.mono ?_ fin
  clear fin hz
  obtain ⟨h1, h2, h3, h4, h5, h6, h7⟩ := winArg_true hb
  have k1 := side_bd h2
  have k2 := side_bd h3
  clear hb
  by_cases hl : l.length = 3
  · obtain ⟨C, D, E, rfl⟩ := three hl
    have b1 := ok_pos h1 C (by simp)
    have b2 := ok_pos h1 D (by simp)
    have b3 := ok_pos h1 E (by simp)
    obtain ⟨rfl, b, off, rfl, c0, c1, c2⟩ := h.three
    have H := Lib.hid h; clear h
    simp at hs
    by_cases hs1 : D + 2 * pad < kh
    · clear hs hl
      go_enter Try.func23, Try.ntmps23
      go_wp2_with (first | (go_at_call 12; refine (valid_c _ _ _ _ _ H.out).mono ?_; rintro e w' ⟨rfl, rfl⟩) | (go_at_call 27; refine (side_c _ _).mono ?_; rintro e w' ⟨rfl, rfl⟩))
      refine bodyPost_ret (results_tmp4 rfl _ _ _) rfl ?_
      exact ⟨rfl, rfl⟩
    · have hs2 : E + 2 * pad < kw := by omega
      clear hs hl
      go_enter Try.func23, Try.ntmps23
      go_wp2_with (first | (go_at_call 12; refine (valid_c _ _ _ _ _ H.out).mono ?_; rintro e w' ⟨rfl, rfl⟩) | (go_at_call 27; refine (side_c _ _).mono ?_; rintro e w' ⟨rfl, rfl⟩))
      refine bodyPost_ret (results_tmp4 rfl _ _ _) rfl ?_
      exact ⟨rfl, rfl⟩
  · have hne : ((len : Int) != 3) = true := by rw [bne_iff_ne]; have := h.1; omega
    have H := Lib.hid h; clear h
    clear hs hl
    go_enter Try.func23, Try.ntmps23
    go_wp2_with (first | (go_at_call 12; refine (valid_c _ _ _ l _ H.out).mono ?_; rintro e w' ⟨rfl, rfl⟩) | (go_at_call 27; refine (side_c _ _).mono ?_; rintro e w' ⟨rfl, rfl⟩))
    refine bodyPost_ret (results_tmp4 rfl _ _ _) rfl ?_
    exact ⟨rfl, rfl⟩

end Go.Proofs.Ytlbmllhjmgccaaa
