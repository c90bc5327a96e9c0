/- Carried over from another seat by program (port.py): layer 1. -/
import Derived.Test.YtjkfnnoakjdgmaaNa
import Derived.Test.YtjkfnnoakjdgmaaNln
namespace Go.Proofs.Ytjkfnnoakjdgmaa
open Go.RowKit
set_option linter.unusedVariables false
set_option maxHeartbeats 400000 in
theorem bits_c (a : Option Addr) (len cap : Nat) (l : List Nat) (w : World) (h : Rd w a len cap l) (hlb : len ≤ 1048576) :
    Calls Try.prog 41 #[.slice a len cap] w fun e w' => e = .returned (.int .i64 (bl (nv l) : Nat)) ∧ w = w' := by
  have H := Lib.hid h
  have HT := h.trimmed
  have hle := dig_length_le h.lim
  rw [h.len_eq] at hle
  obtain ⟨n, hn⟩ : ∃ n, (dig (nv l)).length = n := ⟨_, rfl⟩
  have HN := Lib.hid hn
  rw [hn] at HT hle
  clear h
  by_cases hz : n = 0
  · subst hz
    have hfin : Hid (bl (nv l) = 0) := Lib.hid (by rw [dig_nil_iff.1 (List.length_eq_zero_iff.1 hn)]; rfl)
    clear hn HT
    go_enter Try.func41, Try.ntmps41
    go_wp2_with (go_at_call 57; refine (trim_c _ _ _ l _ H.out).mono ?_; rw [HN.out]; rintro e w' ⟨rfl, rfl⟩)
    go_ret
    exact ⟨ret_int (by rw [hfin.out]; rfl), rfl⟩
  · obtain ⟨k, rfl⟩ : ∃ k, n = k + 1 := ⟨n - 1, by omega⟩
    have hfin0 := bl_dig hn
    obtain ⟨x, hx⟩ : ∃ x, (dig (nv l)).getD k 0 = x := ⟨_, rfl⟩
    have hxl := HT.lim.at k
    rw [hx] at hxl hfin0
    have hfin := Lib.hid hfin0
    have HX := Lib.hid (len32_c x w hxl)
    have hb := bl_le (show x < 2 ^ 32 from hxl)
    obtain ⟨b', hb'⟩ : ∃ b', bl x = b' := ⟨_, rfl⟩
    rw [hb'] at hb HX hfin
    obtain ⟨-, h2, h3, -, -, hc⟩ := HT
    rcases hc with hc | ⟨b, off, rfl, hc⟩
    · omega
    have hcell := hc k (by omega)
    rw [hx] at hcell
    clear hn hx hc hfin0 hb' hxl
    go_enter Try.func41, Try.ntmps41
    go_wp2_with fail
    refine (trim_c _ _ _ l _ H.out).mono ?_
    rw [HN.out]
    rintro e w' ⟨rfl, rfl⟩
    go_wp2_with (go_at_call 58; refine HX.out.mono ?_; rintro e w' ⟨rfl, rfl⟩)
    go_ret
    exact ⟨ret_int (by rw [hfin.out]; first | rfl | (push_cast; omega) | omega), rfl⟩
end Go.Proofs.Ytjkfnnoakjdgmaa
